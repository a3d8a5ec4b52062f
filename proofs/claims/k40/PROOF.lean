import PyProof.Rows.All
import Wide.All
import OpenK.AllK
import Wide.FinOn
import Lean
import PyProof.EqAt
import PyProof.EqKinds
import PyProof.TupleCall
import PyProof.NeKinds
import PyProof.EnumMake
import PyProof.ConsumeWalk
import PyProof.StrWalks
import PyProof.WalksMore
import PyProof.StrLawsNeg
import KE.KDictList
import KE.KLam
import KE.KMinKey
import KE.KSortTup
import KE.KUnpack
import PySem.Challenge.RW_citeward_k40_what_a_heap_tells
set_option Elab.async false
set_option linter.all false
set_option genSizeOf false
set_option genSizeOfSpec false
set_option maxRecDepth 100000
set_option maxHeartbeats 4000000
namespace L2
open PySem PySem.Spec PyProof.Rows
noncomputable abbrev Key:=Sum Int Str
noncomputable def Zed:Key→Value→Bool
 | .inl k,v=>Value.isInt k v
 | .inr x,v=>Value.isStrOf x v
noncomputable def keyH(w:World):Key→Int
 | .inl k=>hashInt k
 | .inr x=>hashStr w x
theorem Zx:∀{k:Key} {v:Value},Zed k v=true→(∃i t,k=Sum.inl i∧v=Value.int i t)∨(∃x t,k=Sum.inr x∧v=Value.str x t)
 | .inl i,v,h=>by
  obtain⟨t,e⟩:=Value.isInt_shape (k:=i) (v:=v) h
  exact .inl ⟨i,t,rfl,e⟩
 | .inr x,v,h=>by
  obtain⟨t,e⟩:=Value.isStrOf_shape (x:=x) (v:=v) h
  exact .inr ⟨x,t,rfl,e⟩
theorem Zjf(i:Int)(t:Tok):Zed (.inl i) (.int i t)=true:=by simp[Zed,Value.isInt]
theorem Zjg(x:Str)(t:Tok):Zed (.inr x) (.str x t)=true:=by simp[Zed,Value.isStrOf]
theorem Zqp(a b:Int):decide ((Sum.inl a:Key)=Sum.inl b)=(a==b):=by
 by_cases e:a=b
 ·subst e;simp
 ·have h:¬(Sum.inl a:Key)=Sum.inl b:=fun q=>e (Sum.inl.inj q)
  rw[decide_eq_false h]
  exact(beq_eq_false_iff_ne.mpr e).symm
theorem Zqq(a b:Str):decide ((Sum.inr a:Key)=Sum.inr b)=decide (a=b):=by
 by_cases e:a=b
 ·subst e;simp
 ·have h:¬(Sum.inr a:Key)=Sum.inr b:=fun q=>e (Sum.inr.inj q)
  rw[decide_eq_false h,decide_eq_false e]
theorem Zqr(a:Int)(b:Str):decide ((Sum.inl a:Key)=Sum.inr b)=false:=decide_eq_false (fun q=>nomatch q)
theorem Zqs(a:Str)(b:Int):decide ((Sum.inr a:Key)=Sum.inl b)=false:=decide_eq_false (fun q=>nomatch q)
noncomputable def Zy(prog:Program)(w:World):PySem.KeyKind prog w Key where
 is:=Zed
 hash:=keyH w
 inj:=fun v a b ha hb=>by
  rcases Zx ha with⟨i,t,rfl,rfl⟩|⟨x,t,rfl,rfl⟩
  ·rcases Zx hb with⟨j,u,rfl,e⟩|⟨y,u,rfl,e⟩
   ·injection e with e1 _;rw[e1]
   ·exact nomatch e
  ·rcases Zx hb with⟨j,u,rfl,e⟩|⟨y,u,rfl,e⟩
   ·exact nomatch e
   ·injection e with e1 _;rw[e1]
 byValue:=fun k v h=>by
  rcases Zx h with⟨i,t,rfl,rfl⟩|⟨x,t,rfl,rfl⟩<;> rfl
 pyHash:=fun hv h=>by
  rcases Zx hv with⟨i,t,rfl,rfl⟩|⟨x,t,rfl,rfl⟩
  ·exact wpAny_pyHash_int h
  ·exact wpAny_pyHash_str h
 eqBool:=fun hu hv h=>by
  rcases Zx hu with⟨i,t,rfl,rfl⟩|⟨x,t,rfl,rfl⟩
  ·rcases Zx hv with⟨j,u,rfl,rfl⟩|⟨y,u,rfl,rfl⟩
   ·rw[Zqp]at h;exact wpAny_eqBool_int h
   ·rw[Zqr]at h;exact SeqAt.EqAt.int_str i t y u _ _ _ _ h
  ·rcases Zx hv with⟨j,u,rfl,rfl⟩|⟨y,u,rfl,rfl⟩
   ·rw[Zqs]at h;exact SeqAt.EqAt.str_int x t j u _ _ _ _ h
   ·rw[Zqq]at h;exact wpAny_eqBool_str h
 «strs»:=fun k x t v h=>by
  rcases Zx h with⟨i,u,rfl,e⟩|⟨y,u,rfl,e⟩
  ·exact nomatch e
  ·injection e with e1 _
   subst e1
   cases v<;> rfl
theorem Zqk(prog:Program)(w:World)(k:Key)(v:Value):(Zy prog w).is k v=Zed k v:=rfl
theorem Zgq(prog:Program)(w:World)(i:Int)(t:Tok):(Zy prog w).is (.inl i) (.int i t)=true:=Zjf i t
theorem Zgr(prog:Program)(w:World)(x:Str)(t:Tok):(Zy prog w).is (.inr x) (.str x t)=true:=Zjg x t
end L2
namespace L2
open PySem PySem.Spec PyProof.Rows
inductive V where
 |non|bl (b:Bool)|int (i:Int)|str (x:Str)|byt (b:Array UInt8)|flt (b:UInt64)|ref (a:Addr)|ty (n:String)
 deriving DecidableEq
noncomputable def RelV:V→Value→Prop
 | .non,u=>u=Value.none
 | .bl b,u=>u=Value.bool b
 | .int i,u=>∃t,u=Value.int i t
 | .str x,u=>∃t,u=Value.str x t
 | .byt b,u=>∃t,u=Value.bytes b t
 | .flt b,u=>∃t,u=Value.float b t
 | .ref a,u=>u=Value.ref a
 | .ty n,u=>u=Value.type n
noncomputable abbrev Vals:List V→List Value→Prop:=Paired RelV
theorem Vals.length{xs:List V}{us:List Value}(r:Vals xs us):xs.length=us.length:=Paired.length r
theorem Vals.get:∀{xs:List V} {us:List Value} {i:Nat} {x:V},Vals xs us→xs[i]? =some x→∃u,us[i]? =some u∧RelV x u
 |_,_,_,_,.nil,e=>by simp at e
 |_,_,0,_,.cons r _,e=>by simp at e;subst e;exact⟨_,rfl,r⟩
 |_,_,i+1,x,.cons _ t,e=>by
  obtain⟨u,h1,h2⟩:=Vals.get (i:=i) (x:=x) t (by simpa using e)
  exact⟨u,by simpa using h1,h2⟩
theorem Vals.append:∀{xs ys:List V} {us ws:List Value},Vals xs us→Vals ys ws→Vals (xs++ys) (us++ws)
 |_,_,_,_,.nil,s=>s
 |_,_,_,_,.cons r t,s=>.cons r (Vals.append t s)
theorem Vals.take:∀{xs:List V} {us:List Value} (n:Nat),Vals xs us→Vals (xs.take n) (us.take n)
 |_,_,0,_=>.nil
 |_,_,_+1,.nil=>.nil
 |_,_,n+1,.cons r t=>.cons r (Vals.take n t)
theorem Vals.drop:∀{xs:List V} {us:List Value} (n:Nat),Vals xs us→Vals (xs.drop n) (us.drop n)
 |_,_,0,r=>r
 |_,_,_+1,.nil=>.nil
 |_,_,n+1,.cons _ t=>Vals.drop n t
noncomputable def RelO:Option V→Option Value→Prop
 |some v,some u=>RelV v u
 |none,none=>True
 |_,_=>False
noncomputable def KV{κ:Type}:List (κ×V)→List (κ×Value)→Prop:=Paired fun(p:κ×V) (q:κ×Value)=>p.1=q.1∧RelV p.2 q.2
noncomputable def kV:Key→V
 | .inl i=>.int i
 | .inr x=>.str x
inductive HO where
 |lst (xs:List V)
 |tup (xs:List V)
 |dK (kvs:List (Key×V)) (ep:Nat)|dT (kvs:List (List Key×V)) (ep:Nat) (bs:List Addr)
 |set (S:Int→Bool) (n:Nat)
 |ins (C dx:Addr) (fs:List (Str×V))
 |own (x:Addr)
 |xd (fs:List (Str×V))
 |met (f x:Addr)
 |rng (lo hi:Int)
 |frz (o:Obj) (u:HO)
 |tbl (ps:Array Value)
 |tab (q:Str)
 |ext (φ:Heap→Prop)
noncomputable abbrev Hp:=Addr→Option HO
noncomputable def upd(H:Hp)(a:Addr)(o:HO):Hp:=fun b=>if b=a then some o else H b
theorem Zv{H:Hp}{a:Addr}{o:HO}:upd H a o a=some o:=by unfold upd;rw[if_pos rfl]
theorem Zl{H:Hp}{a b:Addr}{o:HO}(h:b≠a):upd H a o b=H b:=by unfold upd;rw[if_neg h]
theorem Zut{H:Hp}{a b:Addr}{o u:HO}(h:H a=some o)(h':H b=some u)(d:o≠u):a≠b:=by
 intro e;subst e;rw[h]at h';exact d (Option.some.inj h')
theorem Zu{H:Hp}{a b:Addr}{o:HO}(h:H a=some o)(h':H b=none):a≠b:=by
 intro e;subst e;rw[h]at h';cases h'
section
variable(P:Program)(w:World)
noncomputable def Zan(H:Hp)(h:Heap)(a:Addr):HO→Prop
 | .lst xs=>xs.length≤sizeLine∧∃(its:List Value) (n:Nat),Vals xs its∧h.get? a=some {cls:=.type "list",data:=.seq its.toArray n}
 | .tup xs=>xs.length≤sizeLine∧∃its:List Value,Vals xs its∧IsTup h a its.toArray
 | .dK kvs ep=>kvs.length≤sizeLine∧(a==sysModules)=false∧∃vs,KV kvs vs∧h.DictAt (Zy P w) a vs ep
 | .dT kvs ep bs=>kvs.length≤sizeLine∧(a==sysModules)=false∧∃xs:List (List Key×Addr×Value),
   Paired (fun(p:List Key×V) (q:List Key×Addr×Value)=>p.1=q.1∧H q.2.1=some (.tup (p.1.map kV))∧RelV p.2 q.2.2) kvs xs∧
   ∃o es,h.get? a=some o∧o.ExactDict∧o.data= .dict es ep∧es.toList=xs.map (entryOfKey (tupleKind (Zy P w)))∧(xs.map (·.1)).Nodup∧(xs.map fun x=>x.2.1)=bs
 | .set S n=>h.SetOf (intKind P w) a S n
 | .ins C dx fs=>H dx=some (.own a)∧fs.length≤1000∧dx≠a∧h.get? a=some (PySem.W.instObj C dx)∧
   ∃mA,h.Ns1 dx mA∧(∀f,RelO (fs.lookup f) (mA f))∧PySem.Within mA (fs.map (·.1))
 | .own _=>∃o,h.get? a=some o
 | .xd fs=>∃mA,h.Ns1 a mA∧∀f,RelO (fs.lookup f) (mA f)
 | .rng lo hi=>∃t u v,h.get? a=some {cls:=.type "range",data:=.fields #[.int lo t,.int hi u,.int 1 v]}
 | .frz o u=>h.get? a=some o∧Zan H h a u
 | .tbl ps=>h.get? a=some {cls:=.none,data:=.fields ps}
 | .met f x=>h.get? a=some (PySem.W.methodObj (.ref f) (.ref x))
 | .tab q=>∃ps:Array Value,h.get? a=some {cls:=.none,data:=.fields ps}∧TriplesOk ps.toList∧∀pos cv,codeAmong pos ps.toList=some cv→∃c o vs t,cv= .ref c∧H c=some (.frz o (.own a))∧o.data= .fields vs∧vs[1]? =some (.str q t)
 | .ext φ=>φ h∧(∃o,h.get? a=some o)∧∀h1 h2:Heap,φ h1→(∀o,h1.get? a=some o→h2.get? a=some o)→φ h2
noncomputable def HOk(H:Hp)(h:Heap):Prop:=∀a o,H a=some o→Zan P w H h a o
end
section
variable{P:Program}{w:World}{H H':Hp}{h h':Heap}{a:Addr}{o:HO}
theorem Zan.lt(x:Zan P w H h a o):a<h.objs.size:=by
 cases o with
 |lst xs=>obtain⟨_,_,_,_,e⟩:=x;exact Heap.lt_size e
 |tup xs=>obtain⟨_,_,_,p⟩:=x;exact p.lt
 |dK kvs ep=>obtain⟨_,_,_,_,o,_,e,_⟩:=x;exact Heap.lt_size e
 |dT kvs ep bs=>obtain⟨_,_,_,_,o,_,e,_⟩:=x;exact Heap.lt_size e
 |set S n=>obtain⟨o,_,_,_,e,_⟩:=x;exact Heap.lt_size e
 |ins C dx fs=>obtain⟨_,_,_,e,_⟩:=x;exact Heap.lt_size e
 |own y=>obtain⟨_,e⟩:=x;exact Heap.lt_size e
 |xd fs=>obtain⟨_,⟨_,_,_,e,_⟩,_⟩:=x;exact Heap.lt_size e
 |rng lo hi=>obtain⟨_,_,_,e⟩:=x;exact Heap.lt_size e
 |frz ob u=>obtain⟨e,_⟩:=x;exact Heap.lt_size e
 |tbl ps=>exact Heap.lt_size (show h.get? a=some _ from x)
 |met f y=>exact Heap.lt_size (show h.get? a=some _ from x)
 |tab q=>obtain⟨_,e,_⟩:=x;exact Heap.lt_size e
 |ext φ=>obtain⟨_,⟨_,e⟩,_⟩:=x;exact Heap.lt_size e
theorem Paired.mapP{α β:Type}{F G:α→β→Prop}{l₁:List α}{l₂:List β}(h:Paired F l₁ l₂)(f:∀a b,F a b→G a b):Paired G l₁ l₂:=by
 induction h with
 |nil=>exact .nil
 |cons r _ ih=>exact .cons (f _ _ r) ih
theorem Zan.stay(x:Zan P w H h a o)(k:∀b u,(b=a∨H b=some (.own a))→h.get? b=some u→h'.get? b=some u)
  (ho:∀b,H b=some (.own a)→H' b=some (.own a)) (ht:∀b xs,H b=some (.tup xs)→H' b=some (.tup xs))
  (hz:∀b o,H b=some (.frz o (.own a))→H' b=some (.frz o (.own a)):=by first|exact fun _ _ q=>q| (intro b o q;rw[Zl (Zu q (by assumption))];exact q)):Zan P w H' h' a o:=by
 induction o with
 |lst xs=>obtain⟨z,its,n,r,e⟩:=x;exact⟨z,its,n,r,k _ _ (.inl rfl) e⟩
 |tup xs=>obtain⟨z,its,r,ob,e,c⟩:=x;exact⟨z,its,r,ob,k _ _ (.inl rfl) e,c⟩
 |dK kvs ep=>obtain⟨z,y,vs,r,ob,es,e,c⟩:=x;exact⟨z,y,vs,r,ob,es,k _ _ (.inl rfl) e,c⟩
 |dT kvs ep bs=>
  obtain⟨z,y,xs,r,ob,es,e,c⟩:=x
  exact⟨z,y,xs,Paired.mapP r fun p q z=>⟨z.1,ht _ _ z.2.1,z.2.2⟩,ob,es,k _ _ (.inl rfl) e,c⟩
 |set S n=>obtain⟨ob,es,ep,t,e,c⟩:=x;exact⟨ob,es,ep,t,k _ _ (.inl rfl) e,c⟩
 |ins C dx fs=>
  obtain⟨d,z,ne,e,mA,⟨od,es,ep,e2,c⟩,r⟩:=x
  exact⟨ho _ d,z,ne,k _ _ (.inl rfl) e,mA,⟨od,es,ep,k _ _ (.inr d) e2,c⟩,r⟩
 |own y=>obtain⟨ob,e⟩:=x;exact⟨ob,k _ _ (.inl rfl) e⟩
 |xd fs=>obtain⟨mA,⟨od,es,ep,e,c⟩,r⟩:=x;exact⟨mA,⟨od,es,ep,k _ _ (.inl rfl) e,c⟩,r⟩
 |rng lo hi=>obtain⟨t,u,v,e⟩:=x;exact⟨t,u,v,k _ _ (.inl rfl) e⟩
 |frz ob u ih=>obtain⟨e,q⟩:=x;exact⟨k _ _ (.inl rfl) e,ih q⟩
 |tbl ps=>
  have e:h.get? a=some {cls:=.none,data:=.fields ps}:=x
  show h'.get? a=some {cls:=.none,data:=.fields ps}
  exact k a _ (.inl rfl) e
 |met f y=>
  have e:h.get? a=some (PySem.W.methodObj (.ref f) (.ref y)):=x
  show h'.get? a=some (PySem.W.methodObj (.ref f) (.ref y))
  exact k a _ (.inl rfl) e
 |tab q=>
  obtain⟨ps,e,t,c⟩:=x
  refine⟨ps,k _ _ (.inl rfl) e,t,fun pos cv z=>?_⟩
  obtain⟨c1,o1,vs,tt,e1,e2,r⟩:=c pos cv z
  exact⟨c1,o1,vs,tt,e1,hz _ _ e2,r⟩
 |ext φ=>obtain⟨p,⟨o,e⟩,st⟩:=x;exact⟨st _ _ p fun o q=>k _ _ (.inl rfl) q,⟨o,k _ _ (.inl rfl) e⟩,st⟩
theorem HOk.lt(x:HOk P w H h)(e:H a=some o):a<h.objs.size:=(x a o e).lt
theorem HOk.fresh(x:HOk P w H h)(e:h.objs.size≤a):H a=none:=by
 cases q:H a with
 |none=>rfl
 |some u=>exact absurd (Nat.lt_of_lt_of_le (x.lt q) e) (Nat.lt_irrefl _)
theorem HOk.kept(x:HOk P w H h)(k:∀b u,h.get? b=some u→h'.get? b=some u):HOk P w H h':=fun a o e=>
 (x a o e).stay (fun b u _ q=>k b u q) (fun _ q=>q) fun _ _ q=>q
theorem HOk.laid(x:HOk P w H h)(k:∀b u,h.get? b=some u→h'.get? b=some u)(hp:h.objs.size≤a)(new:Zan P w (upd H a o) h' a o):HOk P w (upd H a o) h':=fun b u e=>by
 have hn:=x.fresh hp
 by_cases hb:b=a
 ·subst hb;rw[Zv]at e;cases e;exact new
 ·rw[Zl hb]at e
  exact(x b u e).stay (fun c v _ q=>k c v q) (fun c q=>by rw[Zl (Zu q hn)];exact q) fun c xs q=>by rw[Zl (Zu q hn)];exact q
end
noncomputable def Rd(H:Hp)(a:Addr)(u:HO):Prop:=H a=some u∨∃o,H a=some (.frz o u)
theorem Rd.ok{P:Program}{w:World}{H:Hp}{h:Heap}{a:Addr}{u:HO}(r:Rd H a u)(x:HOk P w H h):Zan P w H h a u:=by
 rcases r with r|⟨o,r⟩
 ·exact x a u r
 ·obtain⟨_,q⟩:=x a _ r
  exact q
noncomputable def HK(H:Hp)(a:Addr)(kvs:List (Key×V)):Prop:=∃ep,H a=some (.dK kvs ep)
noncomputable def HTt(H:Hp)(a:Addr)(kvs:List (List Key×V)):Prop:=∃ep bs,H a=some (.dT kvs ep bs)
noncomputable def RdK(H:Hp)(a:Addr)(kvs:List (Key×V)):Prop:=∃ep,Rd H a (.dK kvs ep)
noncomputable def RdT(H:Hp)(a:Addr)(kvs:List (List Key×V)):Prop:=∃ep bs,Rd H a (.dT kvs ep bs)
theorem HK.rd{H:Hp}{a:Addr}{kvs:List (Key×V)}(h:HK H a kvs):RdK H a kvs:=let⟨ep,h⟩:=h;⟨ep,.inl h⟩
noncomputable def putB(kvs:List (List Key×V))(bs:List Addr)(k:List Key)(b:Addr):List Addr:=if(kvs.any fun kv=>decide (kv.1=k))=true then bs else bs++[b]
theorem HTt.rd{H:Hp}{a:Addr}{kvs:List (List Key×V)}(h:HTt H a kvs):RdT H a kvs:=let⟨ep,bs,h⟩:=h;⟨ep,bs,.inl h⟩
noncomputable def Mut:Option HO→Prop
 |some (.lst _)=>True
 |some (.dK _ _)=>True
 |some (.dT _ _ _)=>True
 |some (.set _ _)=>True
 |some (.ins _ _ _)=>True
 |some (.ext _)=>True
 |_=>False
section
variable{P:Program}{w:World}{H:Hp}{h h':Heap}{x e:Addr}{o':HO}
theorem HOk.write(ok:HOk P w H h)(mu:Mut (H x))(he:e=x∨H e=some (.own x))(k:∀b u,b≠e→h.get? b=some u→h'.get? b=some u)(heo:∃u,h'.get? e=some u)
  (new:Zan P w (upd H x o') h' x o'):HOk P w (upd H x o') h':=fun b u q=>by
 have nown:∀c y,H c=some (.own y)→c≠x:=fun c y r z=>by subst z;rw[r]at mu;exact mu
 have ntup:∀c xs,H c=some (.tup xs)→c≠x:=fun c xs r z=>by subst z;rw[r]at mu;exact mu
 by_cases hb:b=x
 ·subst hb;rw[Zv]at q;cases q;exact new
 ·rw[Zl hb]at q
  by_cases hbe:b=e
  ·have q':H b=some (.own x):=by
    rcases he with z|z
    ·exact absurd (hbe.trans z) hb
    ·rw[hbe];exact z
   rw[q]at q';cases q'
   obtain⟨v,hv⟩:=heo
   exact⟨v,by rw[hbe];exact hv⟩
  ·refine(ok b u q).stay (fun c v hc r=>k c v ?_ r) (fun c r=>by rw[Zl (nown c b r)];exact r) (fun c xs r=>by rw[Zl (ntup c xs r)];exact r) fun c o r=>by rw[Zl (fun z=>by subst z;rw[r]at mu;exact mu)];exact r
   rcases hc with rfl|hc
   ·exact hbe
   ·rintro rfl
    rcases he with z|z
    ·exact nown c b hc z
    ·rw[hc]at z;cases z;exact hb rfl
end
structure Un(fs ex:List Addr)(H H':Hp)(h h':Heap):Prop where
 keep:∀b o,h.get? b=some o→H b=none→b∉fs→b∉ex→h'.get? b=some o
 slot:∀b o,h.get? b=some o→H b=none→b∈fs→b∉ex→∃sl,h'.get? b=some {o with slots:=sl}
 free:∀b o,h.get? b=some o→H b=none→b∉ex→H' b=none
 there:∀b o,h.get? b=some o→b∉ex→∃o',h'.get? b=some o'
 tups:∀b xs,H b=some (.tup xs)→H' b=some (.tup xs)
 frzs:∀b o u,H b=some (.frz o u)→H' b=some (.frz o u)
 tbls:∀b ps,H b=some (.tbl ps)→∃more,H' b=some (.tbl (ps++more))
section
variable{fs fs' ex ex':List Addr}{H H1 H2:Hp}{h h1 h2 h':Heap}{a x e:Addr}{o:HO}
theorem Un.any(u:Un fs ex H H1 h h1){b:Addr}{ob:Obj}(q:h.get? b=some ob)(n:H b=none)(hx:b∉ex):∃sl,h1.get? b=some {ob with slots:=sl}:=by
 by_cases hb:b∈fs
 ·exact u.slot b ob q n hb hx
 ·exact⟨ob.slots,u.keep b ob q n hb hx⟩
theorem Un.kept(k:∀b u,h.get? b=some u→h'.get? b=some u):Un fs ex H H h h':=
 ⟨fun b ob q _ _ _=>k b ob q,fun b ob q _ _ _=>⟨ob.slots,k b ob q⟩,fun _ _ _ n _=>n,fun b ob q _=>⟨ob,k b ob q⟩,fun _ _ q=>q,fun _ _ _ q=>q,fun _ ps q=>⟨#[],by rw[q];simp⟩⟩
theorem Un.refl:Un fs ex H H h h:=Un.kept fun _ _ q=>q
theorem Un.laid(k:∀b u,h.get? b=some u→h'.get? b=some u)(hp:h.objs.size≤a)(hn:H a=none):Un fs ex H (upd H a o) h h' where
 keep:=fun b u q _ _ _=>k b u q
 slot:=fun b u q _ _ _=>⟨u.slots,k b u q⟩
 free:=fun b u q n _=>by rw[Zl (Nat.ne_of_lt (Nat.lt_of_lt_of_le (Heap.lt_size q) hp))];exact n
 there:=fun b u q _=>⟨u,k b u q⟩
 tups:=fun b xs q=>by rw[Zl (Zu q hn)];exact q
 frzs:=fun b u xs q=>by rw[Zl (Zu q hn)];exact q
 tbls:=fun b ps q=>⟨#[],by rw[Zl (Zu q hn),q];simp⟩
theorem Un.write(mu:Mut (H x))(he:e=x∨H e=some (.own x))(k:∀b u,b≠e→h.get? b=some u→h'.get? b=some u)(heo:∃u,h'.get? e=some u):Un fs ex H (upd H x o) h h':=by
 have hx:∀b,H b=none→b≠x:=fun b n z=>by subst z;rw[n]at mu;exact mu
 have hb:∀b,H b=none→b≠e:=fun b n z=>by
  subst z
  rcases he with r|r
  ·exact hx b n r
  ·rw[n]at r;cases r
 have hm:∀b u,H b=some u→¬Mut (some u)→b≠x:=fun b u q nm z=>by subst z;rw[q]at mu;exact nm mu
 refine⟨fun b u q n _ _=>k b u (hb b n) q,fun b u q n _ _=>⟨u.slots,k b u (hb b n) q⟩,fun b u q n _=>by rw[Zl (hx b n)];exact n,fun b u q _=>?_,
  fun b xs q=>by rw[Zl (hm b _ q fun z=>z)];exact q,fun b u xs q=>by rw[Zl (hm b _ q fun z=>z)];exact q,fun b ps q=>⟨#[],by rw[Zl (hm b _ q fun z=>z),q];simp⟩⟩
 by_cases hbe:b=e
 ·subst hbe;exact heo
 ·exact⟨u,k b u hbe q⟩
end
noncomputable def trk(h:Heap)(H:Hp):List Addr:=(List.range h.objs.size).filter fun a=>(H a).isSome
noncomputable def hidT(h:Heap)(H:Hp):Heap:=PySem.W.hideAll h (trk h H)
theorem Zjh(h:Heap)(H:Hp):(hidT h H).objs.size=h.objs.size:=PySem.W.hideAll_size _ _
theorem Zl7{h:Heap}{H:Hp}{b:Addr}{o:Obj}(e:h.get? b=some o)(n:H b=none):(hidT h H).get? b=some o:=
 PySem.W.hideAll_get _ e fun hm=>by
  have q:(H b).isSome=true:=(List.mem_filter.mp hm).2
  rw[n]at q;simp at q
theorem Zoh{h:Heap}{H:Hp}{b:Addr}{o:Obj}(e:(hidT h H).get? b=some o):h.get? b=some o∧H b=none:=by
 have e':h.get? b=some o:=PySem.W.of_hideAll (trk h H) e
 refine⟨e',?_⟩
 cases q:H b with
 |none=>rfl
 |some x=>
  have hm:b∈trk h H:=List.mem_filter.mpr ⟨List.mem_range.mpr (Heap.lt_size e'),by simp[q]⟩
  have z:(hidT h H).get? b=none:=PySem.W.hideAll_none (trk h H) hm
  rw[z]at e;cases e
noncomputable def Zoi(g h:Heap)(L:Addr):List (Addr×Obj):=(List.range h.objs.size).filterMap fun a=>if a=L∨(g.get? a).isSome=true then none else(h.get? a).map fun o=>(a,o)
noncomputable def rest(g h:Heap)(L d:Addr):List (Addr×Obj):=(Zoi g h L).filter fun p=>decide (p.1≠d)
end L2
namespace L2
open PySem PySem.Spec PyProof.Rows
structure Mod(K:PySem.W.Frag)(mg:Str→Option Value)(base:Heap):Prop where
 kin:K.In base
 glob:base.Ns mainGlobals mg
 blt:∃mb,base.Ns builtinsNs mb∧∀x:Str,x≠"__name__"→mb x=bootBuiltins x
 nolimit:base.NoLimit
set_option genInjectivity false in
structure Cx where
 prog:Program
 w:World
 K:PySem.W.Frag
 mg:Str→Option Value
 base:Heap
 A:Around
 N:List Str
 s₀:Shared
 H₀:Hp
 env:Env
 outer:List Env
 stack:List Env
 ex:List Addr
 fn:Str→Bool
 calm:Bool
 pn:List (Addr×Obj)
 xe:Value→Shared→Prop
noncomputable def frs(l:List Env):List Addr:=l.filterMap (·.frame)
noncomputable abbrev Cx.fs(X:Cx):List Addr:=frs X.outer
noncomputable def Vis(sc:Scope)(x:Str):Prop:=sc.names.lookup x=some .local∨sc.names.lookup x=some .cell∨sc.names.lookup x=some .free
noncomputable def Loc(sc:Scope)(x:Str):Prop:=sc.names.lookup x=some .local∨sc.names.lookup x=some .cell
noncomputable def Look(env:Env)(h:Heap)(m:Str→Option Value)(x:Str)(u:Value):Prop:=
 (env.kindOf x=some .local∧m x=some u)∨((env.kindOf x=some .cell∨env.kindOf x=some .free)∧∃c,env.cells.lookup x=some c∧h.IsCell c (some u))
set_option genInjectivity false in
structure Cx.Ok(X:Cx):Prop where
 mod:Mod X.K X.mg X.base
 kind:X.env.scope.kind= .function
 glob:X.env.globals=mainGlobals
 blt:X.env.builtins=builtinsNs
 above:X.s₀.heap.objs.size≤X.env.locals
 inj:∀x y c,X.env.cells.lookup x=some c→X.env.cells.lookup y=some c→x=y
 has:∀x,(X.env.kindOf x=some .cell∨X.env.kindOf x=some .free)→∃c,X.env.cells.lookup x=some c
 cab:∀x c,X.fn x=true→X.env.cells.lookup x=some c→X.s₀.heap.objs.size≤c
 hd:X.calm=true→X.A.handled=none
 frames:X.A.frames=some X.stack
 stk:X.stack=X.outer∨(X.stack=X.env::X.outer∧X.env.frame=some X.env.locals)
 exf:∀b∈X.ex,b≠X.env.locals∧∀x c,X.env.cells.lookup x=some c→c≠b
 bs:∀b o,X.base.get? b=some o→X.s₀.heap.get? b=some o∧X.H₀ b=none
 bsz:X.base.objs.size≤X.s₀.heap.objs.size
 noex:∀b o,X.base.get? b=some o→b∉X.ex
 exfs:∀b∈X.ex,b∉X.fs
 funs:X.s₀.heap.FunFrames X.base X.outer
 frf:∀b∈X.fs,X.H₀ b=none
structure Inv(X:Cx)(pins:List (Addr×Obj))(σ:List (Option V))(H:Hp)(s:Shared):Prop where
 ok:X.Ok
 os:s.os=X.s₀.os
 bare:AllBare s.gens
 base:Un X.fs X.ex X.H₀ H X.s₀.heap s.heap
 loc:∃m,s.heap.Ns X.env.locals m∧∀(i:Nat) (x:Str) (v:V),X.N[i]? =some x→σ[i]? =some (some v)→Vis X.env.scope x→∃u,RelV v u∧Look X.env s.heap m x u
 cell:∀x c,X.env.cells.lookup x=some c→∃v,s.heap.IsCell c v
 free:H X.env.locals=none
 freeC:∀x c,X.env.cells.lookup x=some c→H c=none
 pin:∀p∈X.pn++pins,s.heap.get? p.1=some p.2∧H p.1=none∧p.1≠X.env.locals∧p.1∉X.fs∧∀v,p.2.data≠.cell v
 hok:HOk X.prog X.w H s.heap
 len:σ.length=X.N.length
section
variable{X:Cx}{pins:List (Addr×Obj)}{σ:List (Option V)}{H H':Hp}{s:Shared}{h':Heap}
theorem Cx.Ok.nofr(ok:X.Ok){b:Addr}{o:Obj}(e:X.base.get? b=some o):b∉X.fs:=fun hb=>by
 have:=(ok.funs.mem hb).1
 rw[e]at this;cases this
theorem Inv.bs(I:Inv X pins σ H s):∀b o,X.base.get? b=some o→s.heap.get? b=some o∧H b=none:=fun b o e=>
 ⟨I.base.keep b o (I.ok.bs b o e).1 (I.ok.bs b o e).2 (I.ok.nofr e) (I.ok.noex b o e),I.base.free b o (I.ok.bs b o e).1 (I.ok.bs b o e).2 (I.ok.noex b o e)⟩
theorem Inv.bk(I:Inv X pins σ H s):∀b o,X.base.get? b=some o→s.heap.get? b=some o:=fun b o e=>(I.bs b o e).1
theorem Inv.mod(I:Inv X pins σ H s):Mod X.K X.mg X.base:=I.ok.mod
theorem Inv.kIn(I:Inv X pins σ H s):X.K.In s.heap:=I.ok.mod.kin.keeps I.bk
theorem Inv.nolimit(I:Inv X pins σ H s):s.heap.NoLimit:=I.ok.mod.nolimit.keeps I.bk
theorem Inv.lt(I:Inv X pins σ H s):X.env.locals<s.heap.objs.size:=let⟨_,hn,_⟩:=I.loc;hn.lt
theorem Inv.sz(I:Inv X pins σ H s):X.s₀.heap.objs.size≤s.heap.objs.size:=Nat.le_trans I.ok.above (Nat.le_of_lt I.lt)
theorem Inv.nofs(I:Inv X pins σ H s){a:Addr}(h:s.heap.objs.size≤a):a∉X.fs:=fun hb=>by
 obtain⟨_,o,ho,_⟩:=I.ok.funs.mem hb
 exact absurd (Nat.lt_of_lt_of_le (Heap.lt_size ho) (Nat.le_trans I.sz h)) (Nat.lt_irrefl _)
theorem Inv.cne(I:Inv X pins σ H s):∀x c,X.env.cells.lookup x=some c→c≠X.env.locals:=fun x c e z=>by
 obtain⟨v,o,ho,hd⟩:=I.cell x c e
 obtain⟨m,⟨o',es,ep,ho',hd',_⟩,_⟩:=I.loc
 rw[z,ho']at ho;cases ho;rw[hd']at hd;cases hd
theorem Inv.funs(I:Inv X pins σ H s):s.heap.FunFrames X.base X.outer:=by
 have all:∀(l:List Env),(∀b∈frs l,b∈X.fs)→X.s₀.heap.FunFrames X.base l→s.heap.FunFrames X.base l:=by
  intro l
  induction l with
  |nil=>intro _ _;trivial
  |cons env r ih=>
   intro hs hl
   obtain⟨hk,⟨L,o,hf,hn,ho,hd⟩,hr⟩:=hl
   have hL:L∈X.fs:=hs L (by unfold frs;rw[List.filterMap_cons,hf];exact List.mem_cons_self)
   obtain⟨sl,e⟩:=I.base.slot L o ho (I.ok.frf L hL) hL fun z=>I.ok.exfs L z hL
   exact⟨hk,⟨L,_,hf,hn,e,hd⟩,ih (fun b hb=>hs b (by unfold frs;rw[List.filterMap_cons,hf];exact List.mem_cons_of_mem _ hb)) hr⟩
 exact all X.outer (fun _ hb=>hb) I.ok.funs
theorem Inv.stack(I:Inv X pins σ H s):s.heap.FunFrames X.base X.stack:=by
 rcases I.ok.stk with e|⟨e,hf⟩
 ·rw[e];exact I.funs
 ·rw[e]
  obtain⟨m,hn,_⟩:=I.loc
  refine .cons (by rw[I.ok.kind];decide) hf hn ?_ I.funs
  exact Heap.get?_none_of_le (Nat.le_trans I.ok.bsz I.ok.above)
theorem Inv.stkSub(I:Inv X pins σ H s):∀b∈frs X.stack,b∈X.env.locals::X.fs:=fun b hb=>by
 rcases I.ok.stk with e|⟨e,hf⟩
 ·rw[e]at hb;exact List.mem_cons_of_mem _ hb
 ·rw[e]at hb
  unfold frs at hb
  rw[List.filterMap_cons,hf]at hb
  exact hb
theorem Inv.stkFree(I:Inv X pins σ H s):∀b∈frs X.stack,H b=none:=fun b hb=>by
 rcases List.mem_cons.mp (I.stkSub b hb)with e|hb
 ·rw[e];exact I.free
 ·obtain⟨_,o,ho,_⟩:=I.ok.funs.mem hb
  exact I.base.free b o ho (I.ok.frf b hb) fun z=>I.ok.exfs b z hb
theorem Inv.step{g':Array GenState}{t':Nat}{d':Drawn}{ch:List Addr}(I:Inv X pins σ H s)
  (hch:∀b∈ch,(b∈X.ex∨X.s₀.heap.objs.size≤b)∧b≠X.env.locals∧(∀x c,X.env.cells.lookup x=some c→c≠b)∧∀p∈X.pn++pins,p.1≠b)
  (keep:∀b o,b≠X.env.locals→b∉X.fs→b∉ch→s.heap.get? b=some o→H b=none→h'.get? b=some o)
  (slot:∀b o,b≠X.env.locals→b∈X.fs→b∉ch→s.heap.get? b=some o→H b=none→∃sl,h'.get? b=some {o with slots:=sl}) (free:∀b o,b∉ch→s.heap.get? b=some o→H b=none→H' b=none)
  (there:∀b o,b∉ch→s.heap.get? b=some o→∃o',h'.get? b=some o')
  (tups:∀b xs,H b=some (.tup xs)→H' b=some (.tup xs)) (frzs:∀b o u,H b=some (.frz o u)→H' b=some (.frz o u)) (tbls:∀b ps,H b=some (.tbl ps)→∃more,H' b=some (.tbl (ps++more)))
  (ns:∀m,s.heap.Ns X.env.locals m→h'.Ns X.env.locals m) (hok:HOk X.prog X.w H' h') (hg:AllBare g'):
  Inv X pins σ H' {s with heap:=h',gens:=g',drawn:=d',toks:=t'}:=by
 have neL:∀b o,X.s₀.heap.get? b=some o→b≠X.env.locals:=fun b o e=>Nat.ne_of_lt (Nat.lt_of_lt_of_le (Heap.lt_size e) I.ok.above)
 have neC:∀b o,X.s₀.heap.get? b=some o→b∉X.ex→b∉ch:=fun b o e hx hb=>by
  rcases(hch b hb).1 with z|z
  ·exact hx z
  ·exact absurd (Nat.lt_of_lt_of_le (Heap.lt_size e) z) (Nat.lt_irrefl _)
 have cellK:∀x c,X.env.cells.lookup x=some c→∀v,s.heap.IsCell c v→h'.IsCell c v:=fun x c e v ⟨o,ho,hd⟩=>by
  have nch:c∉ch:=fun z=>(hch c z).2.2.1 x c e rfl
  by_cases hc:c∈X.fs
  ·obtain⟨sl,q⟩:=slot c o (I.cne x c e) hc nch ho (I.freeC x c e)
   exact⟨_,q,hd⟩
  ·exact⟨o,keep c o (I.cne x c e) hc nch ho (I.freeC x c e),hd⟩
 refine⟨I.ok,I.os,hg,⟨fun b o e n hb hx=>?_,fun b o e n hb hx=>?_,fun b o e n hx=>?_,fun b o e hx=>?_,fun b xs e=>tups b xs (I.base.tups b xs e),fun b o xs e=>frzs b o xs (I.base.frzs b o xs e),fun b ps e=>?_⟩,?_,fun x c e=>?_,?_,fun x c e=>?_,fun p hp=>?_,hok,I.len⟩
 ·exact keep b o (neL b o e) hb (neC b o e hx) (I.base.keep b o e n hb hx) (I.base.free b o e n hx)
 ·obtain⟨sl,e1⟩:=I.base.slot b o e n hb hx
  obtain⟨sl',e2⟩:=slot b _ (neL b o e) hb (neC b o e hx) e1 (I.base.free b o e n hx)
  exact⟨sl',e2⟩
 ·obtain⟨o',e1⟩:=I.base.there b o e hx
  exact free b o' (neC b o e hx) e1 (I.base.free b o e n hx)
 ·obtain⟨o',e1⟩:=I.base.there b o e hx
  exact there b o' (neC b o e hx) e1
 ·obtain⟨m1,e1⟩:=I.base.tbls b ps e
  obtain⟨m2,e2⟩:=tbls b _ e1
  exact⟨m1++m2,by rw[e2,Array.append_assoc]⟩
 ·obtain⟨m,hn,hl⟩:=I.loc
  refine⟨m,ns m hn,fun i x v e1 e2 e3=>?_⟩
  obtain⟨u,r,l⟩:=hl i x v e1 e2 e3
  refine⟨u,r,?_⟩
  rcases l with l|⟨k,c,e,z⟩
  ·exact .inl l
  ·exact .inr ⟨k,c,e,cellK x c e _ z⟩
 ·obtain⟨v,z⟩:=I.cell x c e
  exact⟨v,cellK x c e v z⟩
 ·obtain⟨m,⟨o,_,_,ho,_⟩,_⟩:=I.loc
  exact free _ o (fun z=>(hch _ z).2.1 rfl) ho I.free
 ·obtain⟨v,o,ho,hd⟩:=I.cell x c e
  exact free c o (fun z=>(hch c z).2.2.1 x c e rfl) ho (I.freeC x c e)
 ·obtain⟨e,n,ne,nf,d⟩:=I.pin p hp
  have nch:p.1∉ch:=fun z=>(hch p.1 z).2.2.2 p hp rfl
  exact⟨keep p.1 p.2 ne nf nch e n,free p.1 p.2 nch e n,ne,nf,d⟩
theorem Inv.un{t':Nat}(I:Inv X pins σ H s)(u:Un X.fs [] H H' s.heap h')(hok:HOk X.prog X.w H' h'):Inv X pins σ H' {s with heap:=h',toks:=t'}:=by
 obtain⟨m,⟨o,es,ep,ho,r⟩,_⟩:=id I.loc
 obtain⟨sl,hL⟩:=u.any ho I.free (by simp)
 exact I.step (g':=s.gens) (d':=s.drawn) (ch:=[]) (fun _ z=>nomatch z) (fun b o _ hb _ e n=>u.keep b o e n hb (by simp)) (fun b o _ hb _ e n=>u.slot b o e n hb (by simp)) (fun b o _ e n=>u.free b o e n (by simp)) (fun b o _ e=>u.there b o e (by simp)) u.tups u.frzs u.tbls (fun m' hm=>by
  obtain⟨o',es',ep',ho',r'⟩:=hm
  rw[ho]at ho';cases ho'
  exact⟨_,es',ep',hL,r'⟩) hok I.bare
theorem Inv.call{g':Array GenState}{t':Nat}{d':Drawn}{ch:List Addr}(I:Inv X pins σ H s)(u:Un (frs X.stack) ch H H' s.heap h')(hok:HOk X.prog X.w H' h')(hg:AllBare g')
  (hch:∀b∈ch,(b∈X.ex∨X.s₀.heap.objs.size≤b)∧b≠X.env.locals∧(∀x c,X.env.cells.lookup x=some c→c≠b)∧∀p∈X.pn++pins,p.1≠b):
  Inv X pins σ H' {s with heap:=h',gens:=g',drawn:=d',toks:=t'}:=by
 obtain⟨m,⟨o,es,ep,ho,r⟩,_⟩:=id I.loc
 obtain⟨sl,hL⟩:=u.any ho I.free fun z=>(hch _ z).2.1 rfl
 exact I.step (ch:=ch) hch (fun b o hL hb hc e n=>u.keep b o e n (fun z=>(List.mem_cons.mp (I.stkSub b z)).elim hL hb) hc) (fun b o _ _ hc e n=>u.any e n hc) (fun b o hc e n=>u.free b o e n hc) (fun b o hc e=>u.there b o e hc) u.tups u.frzs u.tbls (fun m' hm=>by
  obtain⟨o',es',ep',ho',r'⟩:=hm
  rw[ho]at ho';cases ho'
  exact⟨_,es',ep',hL,r'⟩) hok hg
theorem Inv.turned{t':Nat}{it:Addr}(I:Inv X pins σ H s)(k:∀b o,b≠it→s.heap.get? b=some o→h'.get? b=some o)(hn:H it=none)(hL:it≠X.env.locals)
  (h1:it∈X.ex∨X.s₀.heap.objs.size≤it) (h2:∀x c,X.env.cells.lookup x=some c→c≠it) (h3:∀p∈X.pn++pins,p.1≠it):Inv X pins σ H {s with heap:=h',toks:=t'}:=by
 have nit:∀b u,H b=some u→b≠it:=fun b u e z=>by rw[z,hn]at e;cases e
 refine I.step (g':=s.gens) (d':=s.drawn) (ch:=[it]) (fun b hb=>?_) (fun b o _ _ hc e _=>k b o (fun z=>hc (by simp[z])) e) (fun b o _ _ hc e _=>⟨o.slots,k b o (fun z=>hc (by simp[z])) e⟩) (fun _ _ _ _ n=>n)
  (fun b o hc e=>⟨o,k b o (fun z=>hc (by simp[z])) e⟩) (fun _ _ e=>e) (fun _ _ _ e=>e) (fun b ps e=>⟨#[],by rw[e];simp⟩) (fun m hm=>?_) (fun b u e=>?_) I.bare
 ·have e:b=it:=by simpa using hb
  subst e
  exact⟨h1,hL,h2,h3⟩
 ·obtain⟨o,es,ep,ho,r⟩:=hm
  exact⟨o,es,ep,k _ o (Ne.symm hL) ho,r⟩
 ·refine(I.hok b u e).stay (fun c v hc q=>k c v ?_ q) (fun _ q=>q) fun _ _ q=>q
  rcases hc with z|z
  ·rw[z];exact nit b u e
  ·exact nit c _ z
theorem Inv.tok(I:Inv X pins σ H s)(t:Nat):Inv X pins σ H {s with toks:=t}:=I.un (h':=s.heap) (t':=t) Un.refl I.hok
theorem Inv.kept{t':Nat}(I:Inv X pins σ H s)(k:∀b u,s.heap.get? b=some u→h'.get? b=some u):Inv X pins σ H {s with heap:=h',toks:=t'}:=I.un (Un.kept k) (I.hok.kept k)
theorem Inv.laid{a:Addr}{o:HO}{t':Nat}(I:Inv X pins σ H s)(k:∀b u,s.heap.get? b=some u→h'.get? b=some u)(hp:s.heap.objs.size≤a)(new:Zan X.prog X.w (upd H a o) h' a o):
  Inv X pins σ (upd H a o) {s with heap:=h',toks:=t'}:=I.un (Un.laid k hp (I.hok.fresh hp)) (I.hok.laid k hp new)
theorem Inv.write{x e:Addr}{o:HO}{t':Nat}(I:Inv X pins σ H s)(mu:Mut (H x))(he:e=x∨H e=some (.own x))(k:∀b u,b≠e→s.heap.get? b=some u→h'.get? b=some u)(heo:∃u,h'.get? e=some u)
  (new:Zan X.prog X.w (upd H x o) h' x o):Inv X pins σ (upd H x o) {s with heap:=h',toks:=t'}:=I.un (Un.write mu he k heo) (I.hok.write mu he k heo new)
theorem Inv.pins_of{pins':List (Addr×Obj)}(I:Inv X pins σ H s)(h:∀p∈pins',s.heap.get? p.1=some p.2∧H p.1=none∧p.1≠X.env.locals∧p.1∉X.fs∧∀v,p.2.data≠.cell v):Inv X pins' σ H s:=
 ⟨I.ok,I.os,I.bare,I.base,I.loc,I.cell,I.free,I.freeC,fun p hp=>(List.mem_append.mp hp).elim (fun z=>I.pin p (List.mem_append_left _ z)) (h p),I.hok,I.len⟩
theorem Zhn{N:List Str}(hN:N.Nodup){i j:Nat}{x:Str}(a:N[i]? =some x)(b:N[j]? =some x):i=j:=by
 obtain⟨h1,e1⟩:=List.getElem?_eq_some_iff.mp a
 obtain⟨h2,e2⟩:=List.getElem?_eq_some_iff.mp b
 exact(List.getElem_inj hN).mp (e1.trans e2.symm)
theorem Ze6{M:Model}{A:Around}{E:Value→Shared→Prop}{i:Nat}{x:Str}{v:V}{u:Value}{Q:Unit→Shared→Prop}(I:Inv X pins σ H s)(hN:X.N.Nodup)(hi:X.N[i]? =some x)(hx:Loc X.env.scope x)(r:RelV v u)
  (h:∀s',Inv X pins (σ.set i (some v)) H s'→(∃a,Heap.SameBut a s.heap s'.heap∧(a=X.env.locals∨X.env.cells.lookup x=some a))→Q () s') (hf:X.fn x=true∨X.env.scope.names.lookup x=some .local:=by first|exact .inl rfl|exact .inr rfl|assumption):wpAny M A (storeName X.env x u) Q E s:=by
 obtain⟨m,hn,hl⟩:=id I.loc
 have hcls:(X.env.scope.kind== .class|| (X.env.scope.kind== .module&&X.env.locals !=X.env.globals))=false:=by rw[I.ok.kind];rfl
 have hiσ:i<σ.length:=by rw[I.len];exact(List.getElem?_eq_some_iff.mp hi).1
 have cne:=I.cne
 have tracked:∀{a:Addr} {h':Heap},(∃o,s.heap.get? a=some o∧H a=none)→Heap.SameBut a s.heap h'→HOk X.prog X.w H h':=fun{a h'} ha hs b ob e=>by
  obtain⟨_,_,hfree⟩:=ha
  refine(I.hok b ob e).stay (fun c w' hc q=>(hs.2 c ?_).trans q) (fun _ q=>q) fun _ _ q=>q
  rintro rfl
  rcases hc with rfl|hc
  ·rw[hfree]at e;cases e
  ·rw[hfree]at hc;cases hc
 rcases hx with hk|hk
 ·refine wpAny_storeName_local hk hn (fun h' hn' hs=>?_) hcls
  obtain⟨oL,_,_,hoL,_⟩:=id hn
  refine h _ ⟨I.ok,I.os,I.bare,⟨fun b o e n hb hx=>?_,fun b o e n hb hx=>?_,I.base.free,fun b o e hx=>?_,I.base.tups,I.base.frzs,I.base.tbls⟩,⟨_,hn',fun j y v' e1 e2 e3=>?_⟩,fun y c e=>?_,I.free,I.freeC,fun p hp=>?_,tracked ⟨oL,hoL,I.free⟩ hs,by simpa using I.len⟩ ⟨_,hs,.inl rfl⟩
  ·exact(hs.2 b (Nat.ne_of_lt (Nat.lt_of_lt_of_le (Heap.lt_size e) I.ok.above))).trans (I.base.keep b o e n hb hx)
  ·obtain⟨sl,e1⟩:=I.base.slot b o e n hb hx
   exact⟨sl,(hs.2 b (Nat.ne_of_lt (Nat.lt_of_lt_of_le (Heap.lt_size e) I.ok.above))).trans e1⟩
  ·obtain⟨o',e1⟩:=I.base.there b o e hx
   exact⟨o',(hs.2 b (Nat.ne_of_lt (Nat.lt_of_lt_of_le (Heap.lt_size e) I.ok.above))).trans e1⟩
  ·by_cases hj:j=i
   ·subst hj
    rw[hi]at e1;cases e1
    rw[List.getElem?_set_self hiσ]at e2
    cases e2
    exact⟨u,r,.inl ⟨hk,by simp⟩⟩
   ·rw[List.getElem?_set_ne (Ne.symm hj)]at e2
    obtain⟨u',r',q⟩:=hl j y v' e1 e2 e3
    refine⟨u',r',?_⟩
    rcases q with⟨k,e⟩|⟨k,c,e,z⟩
    ·refine .inl ⟨k,?_⟩
     have:y≠x:=fun e=>hj (Zhn hN e1 (e▸hi))
     simp[this,e]
    ·exact .inr ⟨k,c,e,z.sameBut hs (cne y c e)⟩
  ·obtain⟨w',z⟩:=I.cell y c e
   exact⟨w',z.sameBut hs (cne y c e)⟩
  ·obtain⟨e,n,ne,nf,d⟩:=I.pin p hp
   exact⟨(hs.2 p.1 ne).trans e,n,ne,nf,d⟩
 ·have hfn:X.fn x=true:=by
   rcases hf with z|z
   ·exact z
   ·rw[z]at hk;cases hk
  obtain⟨c,hc⟩:=I.ok.has x (.inl hk)
  obtain⟨w',z⟩:=I.cell x c hc
  refine wpAny_storeName_cell I.ok.kind hk hc z (fun h' hc' hs=>?_)
  obtain⟨oc,hoc,hocd⟩:=id z
  refine h {s with heap:=h'} ⟨I.ok,I.os,I.bare,⟨fun b o e n hb hx=>?_,fun b o e n hb hx=>?_,I.base.free,fun b o e hx=>?_,I.base.tups,I.base.frzs,I.base.tbls⟩,⟨m,hn.sameBut hs (Ne.symm (cne x c hc)),fun j y v' e1 e2 e3=>?_⟩,fun y c' e=>?_,I.free,I.freeC,fun p hp=>?_,tracked ⟨oc,hoc,I.freeC x c hc⟩ hs,by simpa using I.len⟩ ⟨c,hs,.inr hc⟩
  ·exact(hs.2 b (Nat.ne_of_lt (Nat.lt_of_lt_of_le (Heap.lt_size e) (I.ok.cab x c hfn hc)))).trans (I.base.keep b o e n hb hx)
  ·obtain⟨sl,e1⟩:=I.base.slot b o e n hb hx
   exact⟨sl,(hs.2 b (Nat.ne_of_lt (Nat.lt_of_lt_of_le (Heap.lt_size e) (I.ok.cab x c hfn hc)))).trans e1⟩
  ·obtain⟨o',e1⟩:=I.base.there b o e hx
   exact⟨o',(hs.2 b (Nat.ne_of_lt (Nat.lt_of_lt_of_le (Heap.lt_size e) (I.ok.cab x c hfn hc)))).trans e1⟩
  ·by_cases hj:j=i
   ·subst hj
    rw[hi]at e1;cases e1
    rw[List.getElem?_set_self hiσ]at e2
    cases e2
    exact⟨u,r,.inr ⟨.inl hk,c,hc,hc'⟩⟩
   ·rw[List.getElem?_set_ne (Ne.symm hj)]at e2
    obtain⟨u',r',q⟩:=hl j y v' e1 e2 e3
    refine⟨u',r',?_⟩
    rcases q with q|⟨k,c',e,z'⟩
    ·exact .inl q
    ·refine .inr ⟨k,c',e,z'.sameBut hs ?_⟩
     rintro rfl
     exact hj (Zhn hN e1 (I.ok.inj _ _ _ e hc▸hi))
  ·by_cases hcc:c'=c
   ·subst hcc;exact⟨_,hc'⟩
   ·obtain⟨w2,z2⟩:=I.cell y c' e
    exact⟨w2,z2.sameBut hs hcc⟩
  ·obtain⟨e,n,ne,nf,d⟩:=I.pin p hp
   refine⟨(hs.2 p.1 ?_).trans e,n,ne,nf,d⟩
   intro q
   rw[q,hoc]at e
   have q':oc=p.2:=Option.some.inj e
   exact d w' (by rw[←q'];exact hocd)
theorem Zho{M:Model}{A:Around}{E:Value→Shared→Prop}{i:Nat}{x:Str}{v:V}{u:Value}{Q:Unit→Shared→Prop}(I:Inv X pins σ H s)(hN:X.N.Nodup)(hi:X.N[i]? =some x)(hx:Loc X.env.scope x)(r:RelV v u)
  (h:∀s',Inv X pins (σ.set i (some v)) H s'→Q () s') (hf:X.fn x=true∨X.env.scope.names.lookup x=some .local:=by first|exact .inl rfl|exact .inr rfl|assumption):wpAny M A (storeName X.env x u) Q E s:=
 Ze6 I hN hi hx r (fun s' I' _=>h s' I') hf
theorem Inv.call'{s':Shared}{ch:List Addr}(I:Inv X pins σ H s)(ho:s'.os=s.os)(u:Un (frs X.stack) ch H H' s.heap s'.heap)(hok:HOk X.prog X.w H' s'.heap)(hg:AllBare s'.gens)
  (hch:∀b∈ch,(b∈X.ex∨X.s₀.heap.objs.size≤b)∧b≠X.env.locals∧(∀x c,X.env.cells.lookup x=some c→c≠b)∧∀p∈X.pn++pins,p.1≠b):Inv X pins σ H' s':=by
 obtain⟨h',g',d',t',o'⟩:=s'
 have e:o'=s.os:=ho
 subst e
 exact I.call (g':=g') (t':=t') (d':=d') u hok hg hch
end
noncomputable abbrev XK:=Value→Option Addr→Hp→Prop
noncomputable abbrev St:=List (Option V)
noncomputable abbrev VK:=V→Hp→Prop
noncomputable abbrev TE:=St→Hp→VK→Prop
noncomputable abbrev TT:=St→Hp→(Bool→Hp→Prop)→Prop
noncomputable abbrev TA:=St→Hp→(List V→Hp→Prop)→Prop
set_option genInjectivity false in
structure Ends where
 nx:St→Hp→Prop
 rt:VK
 bk:St→Hp→Prop:=fun _ _=>False
 ct:St→Hp→Prop:=fun _ _=>False
noncomputable abbrev TS:=Ends→St→Hp→Prop
noncomputable def EP(X:Cx)(pins:List (Addr×Obj))(σ:St)(Q:VK)(u:Value)(s':Shared):Prop:=∃v H',Inv X pins σ H' s'∧RelV v u∧Q v H'
noncomputable def TP(X:Cx)(pins:List (Addr×Obj))(σ:St)(Q:Bool→Hp→Prop)(b:Bool)(s':Shared):Prop:=∃H',Inv X pins σ H' s'∧Q b H'
noncomputable def AP(X:Cx)(pins:List (Addr×Obj))(σ:St)(Q:List V→Hp→Prop)(us:List Value)(s':Shared):Prop:=∃vs H',Inv X pins σ H' s'∧Vals vs us∧Q vs H'
noncomputable def SP(X:Cx)(pins:List (Addr×Obj))(D:Ends)(f:Flow)(s':Shared):Prop:=
 match f with
 | .next=>∃σ' H',Inv X pins σ' H' s'∧D.nx σ' H'
 | .brk=>∃σ' H',Inv X pins σ' H' s'∧D.bk σ' H'
 | .cont=>∃σ' H',Inv X pins σ' H' s'∧D.ct σ' H'
 | .ret u=>∃v σ' H',Inv X pins σ' H' s'∧RelV v u∧D.rt v H'
noncomputable def PE(X:Cx)(e:Expr)(t:TE):Prop:=
 ∀(pins:List (Addr×Obj)) (s:Shared) (σ:St) (H:Hp) (Q:VK),Inv X pins σ H s→t σ H Q→wpAny (model X.prog X.w) X.A (eval e X.env) (EP X pins σ Q) X.xe s
noncomputable def PT(X:Cx)(e:Expr)(t:TT):Prop:=
 ∀(pins:List (Addr×Obj)) (s:Shared) (σ:St) (H:Hp) (Q:Bool→Hp→Prop),Inv X pins σ H s→t σ H Q→wpAny (model X.prog X.w) X.A (isTrue e X.env (eval e X.env)) (TP X pins σ Q) X.xe s
noncomputable def PW(X:Cx)(e:Expr)(t:TT):Prop:=
 ∀(whole:Sem Value) (pins:List (Addr×Obj)) (s:Shared) (σ:St) (H:Hp) (Q:Bool→Hp→Prop),Inv X pins σ H s→t σ H Q→wpAny (model X.prog X.w) X.A (isTrue e X.env whole) (TP X pins σ Q) X.xe s
theorem PW.pt{X:Cx}{e:Expr}{t:TT}(h:PW X e t):PT X e t:=h _
noncomputable def PA(X:Cx)(es:List Expr)(t:TA):Prop:=
 ∀(pos:Pos) (pins:List (Addr×Obj)) (s:Shared) (σ:St) (H:Hp) (Q:List V→Hp→Prop),Inv X pins σ H s→t σ H Q→wpAny (model X.prog X.w) X.A (spliced (backTo pos (starEach es X.env))) (AP X pins σ Q) X.xe s
noncomputable def PS(X:Cx)(st:Stmt)(t:TS):Prop:=
 ∀(pins:List (Addr×Obj)) (s:Shared) (σ:St) (H:Hp) (D:Ends),Inv X pins σ H s→t D σ H→wpAny (model X.prog X.w) X.A (exec st X.env) (SP X pins D) X.xe s
noncomputable def PSs(X:Cx)(st:List Stmt)(t:TS):Prop:=
 ∀(pins:List (Addr×Obj)) (s:Shared) (σ:St) (H:Hp) (D:Ends),Inv X pins σ H s→t D σ H→wpAny (model X.prog X.w) X.A (execs st X.env) (SP X pins D) X.xe s
theorem thn{α:Type}{t:Sem α}{Q Q':α→Shared→Prop}{M:Model}{A:Around}{E:Value→Shared→Prop}{s:Shared}(h:wpAny M A t Q E s)(hQ:∀a s,Q a s→Q' a s):wpAny M A t Q' E s:=wpAny_mono h hQ fun _ _ x=>x
end L2
namespace L2
open PySem PySem.Spec PyProof.Rows
section
variable{X:Cx}
noncomputable def tVar(i:Nat):TE:=fun σ H Q=>∃v,σ[i]? =some (some v)∧Q v H
noncomputable def tC(v:V):TE:=fun _ H Q=>Q v H
theorem Zji{i:Nat}{x:Str}{pos:Pos}(hN:X.N[i]? =some x)(hv:Vis X.env.scope x)(hd:(x==("__debug__":Str))=false:=by decide)(hcd:(x==("__classdict__":Str))=false:=by decide):PE X (.Name x pos) (tVar i):=by
 intro pins s σ H Q I h
 obtain⟨v,e,h⟩:=h
 obtain⟨m,hn,hl⟩:=I.loc
 obtain⟨u,r,l⟩:=hl i x v hN e hv
 have fin:EP X pins σ Q u s:=⟨v,H,I,r,h⟩
 rcases l with⟨hk,hm⟩|⟨hk,c,hc,hcell⟩
 ·exact wpAny_Name (wpAny_loadName_local I.ok.kind hk hn hm fin) hd
 ·rcases hk with hk|hk
  ·exact wpAny_Name (wpAny_loadName_cell I.ok.kind hk hc hcell fin) hd
  ·exact wpAny_Name (wpAny_loadName_free I.ok.kind hk hc hcell fin hcd) hd
theorem Zqt{i j pos}:PE X (.Constant (.int i) j pos) (tC (.int i)):=fun _ _ _ H _ I h=>wpAny_Constant_int ⟨.int i,H,I.tok _,⟨_,rfl⟩,h⟩
theorem Zuu{b j pos}:PE X (.Constant (.bool b) j pos) (tC (.bl b)):=fun _ _ _ H _ I h=>Constant_bool ⟨.bl b,H,I,rfl,h⟩
theorem Zqu{j pos}:PE X (.Constant .none j pos) (tC .non):=fun _ _ _ H _ I h=>Constant_none ⟨.non,H,I,rfl,h⟩
theorem Zno{x j pos}:PE X (.Constant (.str x) j pos) (tC (.str x)):=fun _ _ _ H _ I h=>Calls.Constant_str ⟨.str x,H,I.tok _,⟨_,rfl⟩,h⟩
noncomputable def Gl(X:Cx)(x:Str):Prop:=X.env.kindOf x=some .globalImplicit
theorem Zoj{E:Value→Shared→Prop}{pins:List (Addr×Obj)}{s:Shared}{σ:St}{H:Hp}{x:Str}{u:Value}{pos:Pos}{Q:Value→Shared→Prop}(I:Inv X pins σ H s)(hg:Gl X x)(hm:X.mg x=some u)(h:Q u s)
  (hd:(x==("__debug__":Str))=false:=by decide):wpAny (model X.prog X.w) X.A (eval (.Name x pos) X.env) Q E s:=
 Calls.Name_function_global I.ok.kind hg (Calls.loadGlobal_global (by rw[I.ok.glob];exact I.mod.glob.keeps I.bk) hm h) hd
theorem Zc5{E:Value→Shared→Prop}{pins:List (Addr×Obj)}{s:Shared}{σ:St}{H:Hp}{x:Str}{u:Value}{pos:Pos}{Q:Value→Shared→Prop}(I:Inv X pins σ H s)(hg:Gl X x)(hm:X.mg x=none)(hv:bootBuiltins x=some u)(h:Q u s)
  (hn:x≠"__name__":=by decide) (hd:(x==("__debug__":Str))=false:=by decide):wpAny (model X.prog X.w) X.A (eval (.Name x pos) X.env) Q E s:=by
 obtain⟨mb,h1,h2⟩:=I.mod.blt
 exact Calls.Name_function_global I.ok.kind hg (Calls.loadGlobal_builtin (by rw[I.ok.glob];exact I.mod.glob.keeps I.bk) hm (by rw[I.ok.blt];exact h1.keeps I.bk) ((h2 x hn).trans hv) h) hd
theorem Zok{x:Str}{v:V}{u:Value}{pos:Pos}(hg:Gl X x)(hm:X.mg x=none)(hv:bootBuiltins x=some u)(r:RelV v u)(hn:x≠"__name__":=by decide)(hd:(x==("__debug__":Str))=false:=by decide):PE X (.Name x pos) (tC v):=
 fun _ _ _ H _ I h=>Zc5 I hg hm hv ⟨v,H,I,r,h⟩ hn hd
noncomputable def t2I(ta tb:TE)(k:Int→Int→Hp→Prop):St→Hp→Prop:=fun σ H=>ta σ H fun x H1=>tb σ H1 fun y H2=>∃i j,x= .int i∧y= .int j∧k i j H2
noncomputable def tAdd(ta tb:TE):TE:=fun σ H Q=>t2I ta tb (fun i j H2=>Q (.int (i+j)) H2) σ H
noncomputable def tSub(ta tb:TE):TE:=fun σ H Q=>t2I ta tb (fun i j H2=>Q (.int (i- j)) H2) σ H
noncomputable def tMul(ta tb:TE):TE:=fun σ H Q=>t2I ta tb (fun i j H2=>(-(2^64)<i∧i<2^64)∧Q (.int (i*j)) H2) σ H
variable{a b:Expr}{ta tb:TE}{pos:Pos}
noncomputable def PC(X:Cx)(op:CmpOp)(a b:Expr)(t:TE):Prop:=
 ∀(pins:List (Addr×Obj)) (s:Shared) (σ:St) (H:Hp) (Q:VK),Inv X pins σ H s→t σ H Q→
  wpAny (model X.prog X.w) X.A (eval a X.env) (fun v s₁=>wpAny (model X.prog X.w) X.A (eval b X.env) (fun u s₂=>wpAny (model X.prog X.w) X.A (compareOp op v u) (EP X pins σ Q) X.xe s₂) X.xe s₁) X.xe s
noncomputable def tCmp(p:Int→Int→Bool)(ta tb:TE):TE:=fun σ H Q=>t2I ta tb (fun i j H2=>Q (.bl (p i j)) H2) σ H
noncomputable abbrev tLt:TE→TE→TE:=tCmp fun i j=>decide (i<j)
noncomputable abbrev tLe:TE→TE→TE:=tCmp fun i j=>decide (i≤j)
noncomputable abbrev tGt:TE→TE→TE:=tCmp fun i j=>decide (j<i)
noncomputable abbrev tGe:TE→TE→TE:=tCmp fun i j=>decide (j≤i)
noncomputable abbrev tEqI:TE→TE→TE:=tCmp fun i j=>decide (i=j)
noncomputable abbrev tNeI:TE→TE→TE:=tCmp fun i j=>!decide (i=j)
noncomputable def tIsN(ta:TE):TE:=fun σ H Q=>ta σ H fun x H1=>Q (.bl (decide (x= .non))) H1
noncomputable def Zyz(ta:TE):TE:=fun σ H Q=>ta σ H fun x H1=>Q (.bl (!decide (x= .non))) H1
noncomputable def tB(t:TE):TT:=fun σ H Q=>t σ H fun x H1=>∃c,x= .bl c∧Q c H1
theorem Zqv{e:Expr}{t:TE}(h:PE X e t)(he:∀whole,isTrue e X.env whole=(do let v←whole;standAt e.pos;holding [v] (truthy v)):=by intro _;rfl):PT X e (tB t):=by
 intro pins s σ H Q I hw
 refine isTrue_plain (thn (h pins s σ H _ I hw) fun v s1 ⟨x,H1,I1,r1,q1⟩=>?_) (he _)
 obtain⟨d,rfl,q⟩:=q1
 cases r1
 exact wpAny_truthy_bool ⟨H1,I1,q⟩
variable{tA tB':TT}{rest:List Expr}
noncomputable def tAnd(t u:TT):TT:=fun σ H Q=>t σ H fun c H1=>if c=true then u σ H1 Q else Q false H1
noncomputable def tOr(t u:TT):TT:=fun σ H Q=>t σ H fun c H1=>if c=true then Q true H1 else u σ H1 Q
noncomputable def tNot(t:TT):TT:=fun σ H Q=>t σ H fun c H1=>Q (!c) H1
theorem Zol(ha:PT X a tA):PW X (.BoolOp .And [a] pos) tA:=by
 intro wh pins s σ H Q I h
 refine isTrue_and (thn (ha pins s σ H Q I h) fun c s1 e=>?_)
 cases c with
 |true=>exact isTrue_and_nil e
 |false=>exact e
theorem Zqw(ha:PT X a tA):PW X (.BoolOp .Or [a] pos) tA:=by
 intro wh pins s σ H Q I h
 refine isTrue_or (thn (ha pins s σ H Q I h) fun c s1 e=>?_)
 cases c with
 |false=>exact isTrue_or_nil e
 |true=>exact e
theorem Zqx(ha:PT X a tA)(hb:PW X (.BoolOp .And (b::rest) pos) tB'):PW X (.BoolOp .And (a::b::rest) pos) (tAnd tA tB'):=by
 intro wh pins s σ H Q I h
 refine isTrue_and (thn (ha pins s σ H _ I h) fun c s1 zq9=>?_)
 obtain⟨H1,I1,q1⟩:=zq9
 cases c with
 |true=>exact hb wh pins s1 σ H1 Q I1 q1
 |false=>exact⟨H1,I1,q1⟩
theorem Zuv(ha:PT X a tA)(hb:PW X (.BoolOp .Or (b::rest) pos) tB'):PW X (.BoolOp .Or (a::b::rest) pos) (tOr tA tB'):=by
 intro wh pins s σ H Q I h
 refine isTrue_or (thn (ha pins s σ H _ I h) fun c s1 zq9=>?_)
 obtain⟨H1,I1,q1⟩:=zq9
 cases c with
 |true=>exact⟨H1,I1,q1⟩
 |false=>exact hb wh pins s1 σ H1 Q I1 q1
theorem Zqy(ha:PT X a tA):PT X (.UnaryOp .Not a pos) (tNot tA):=by
 intro pins s σ H Q I h
 exact isTrue_not (ha pins s σ H (fun c H1=>Q (!c) H1) I h)
noncomputable def Zqz(ta tb:TE):TE:=fun σ H Q=>ta σ H fun x H1=>∃c,x= .bl c∧if c=true then tb σ H1 Q else Q (.bl false) H1
noncomputable def tOrV(ta tb:TE):TE:=fun σ H Q=>ta σ H fun x H1=>∃c,x= .bl c∧if c=true then Q (.bl true) H1 else tb σ H1 Q
noncomputable def Zy0(ta:TE):TE:=fun σ H Q=>ta σ H fun x H1=>∃c,x= .bl c∧Q (.bl (!c)) H1
theorem Zq0{op} {t:TE} (h:PE X a t):PE X (.BoolOp op [a] pos) t:=fun pins s σ H Q I hw=>BoolOp_one (h pins s σ H Q I hw)
theorem Zq1(ha:PE X a ta)(hb:PE X (.BoolOp .And (b::rest) pos) tb):PE X (.BoolOp .And (a::b::rest) pos) (Zqz ta tb):=by
 intro pins s σ H Q I h
 refine BoolOp_and (thn (ha pins s σ H _ I h) fun v s1 zq9=>?_)
 obtain⟨x,H1,I1,r1,q1⟩:=zq9
 obtain⟨c,rfl,q1⟩:=q1
 cases r1
 refine wpAny_truthy_bool ?_
 cases c with
 |true=>exact hb pins s1 σ H1 Q I1 q1
 |false=>exact⟨.bl false,H1,I1,rfl,q1⟩
noncomputable def tIf(t:TT)(ta tb:TE):TE:=fun σ H Q=>t σ H fun c H1=>if c=true then ta σ H1 Q else tb σ H1 Q
theorem Zl8{c:Expr}(hc:PT X c tA)(ha:PE X a ta)(hb:PE X b tb):PE X (.IfExp c a b pos) (tIf tA ta tb):=by
 intro pins s σ H Q I h
 refine wpAny_IfExp (thn (hc pins s σ H _ I h) fun d s1 zq9=>?_)
 obtain⟨H1,I1,q1⟩:=zq9
 cases d with
 |true=>exact ha pins s1 σ H1 Q I1 q1
 |false=>exact hb pins s1 σ H1 Q I1 q1
end
end L2
namespace L2
open PySem PySem.Spec PyProof.Rows
noncomputable def SqL(K:PySem.W.Frag)(H:Hp)(a:Addr)(xs:List V):Prop:=
 Rd H a (.lst xs)∨
  ∃(o:Obj) (its:Array Value) (n:Nat),K.lookup a=some o∧o.cls= .type "list"∧o.dict=none∧o.data= .seq its n∧its.size≤sizeLine∧Vals xs its.toList
noncomputable def SqT(K:PySem.W.Frag)(H:Hp)(a:Addr)(xs:List V):Prop:=
 Rd H a (.tup xs)∨
  ∃(o:Obj) (its:Array Value) (n:Nat),K.lookup a=some o∧o.cls= .type "tuple"∧o.data= .seq its n∧its.size≤sizeLine∧Vals xs its.toList
noncomputable def absV:Value→Option V
 | .none=>some .non
 | .bool b=>some (.bl b)
 | .int i _=>some (.int i)
 | .str x _=>some (.str x)
 | .bytes b _=>some (.byt b)
 | .float b _=>some (.flt b)
 | .ref a=>some (.ref a)
 | .type n=>some (.ty n)
 |_=>none
theorem RelV.abs{x:V}{u:Value}(r:RelV x u):absV u=some x:=by
 cases x with
 |non=>cases r;rfl
 |bl _=>cases r;rfl
 |int _=>obtain⟨t,rfl⟩:=r;rfl
 |str _=>obtain⟨t,rfl⟩:=r;rfl
 |byt _=>obtain⟨t,rfl⟩:=r;rfl
 |flt _=>obtain⟨t,rfl⟩:=r;rfl
 |ref _=>cases r;rfl
 |ty _=>cases r;rfl
theorem RelV.inj{x y:V}{u:Value}(r:RelV x u)(q:RelV y u):x=y:=Option.some.inj (r.abs.symm.trans q.abs)
theorem Vals.inj{xs:List V}:∀{ys:List V} {us:List Value},Vals xs us→Vals ys us→xs=ys:=by
 induction xs with
 |nil=>intro ys us h g;cases h;cases g;rfl
 |cons x xs ih=>
  intro ys us h g
  cases h with
  |cons r t=>
   cases g with
   |cons r' t'=>rw[r.inj r',ih t t']
section
variable{X:Cx}{pins:List (Addr×Obj)}{σ:St}{H:Hp}{s:Shared}{a:Addr}{xs ys:List V}
theorem Inv.list(I:Inv X pins σ H s)(h:SqL X.K H a xs):∃its:List Value,Vals xs its∧PlainL s.heap a its.toArray∧xs.length≤sizeLine:=by
 rcases h with h|⟨o,its,n,hk,hc,hd,hs,hz,r⟩
 ·obtain⟨z,its,n,r,e⟩:=h.ok I.hok
  exact⟨its,r,⟨_,n,e,rfl,rfl,rfl⟩,z⟩
 ·refine⟨its.toList,r,⟨o,n,I.kIn a o hk,hc,hd,by simpa using hs⟩,?_⟩
  have e:=r.length
  simp only[Array.length_toList]at e
  omega
theorem Inv.tuple(I:Inv X pins σ H s)(h:SqT X.K H a xs):∃its:List Value,Vals xs its∧IsTup s.heap a its.toArray∧xs.length≤sizeLine:=by
 rcases h with h|⟨o,its,n,hk,hc,hs,hz,r⟩
 ·obtain⟨z,its,r,p⟩:=h.ok I.hok
  exact⟨its,r,p,z⟩
 ·refine⟨its.toList,r,⟨o,I.kIn a o hk,hc,n,by simpa using hs⟩,?_⟩
  have e:=r.length
  simp only[Array.length_toList]at e
  omega
theorem Inv.list_inj(I:Inv X pins σ H s)(h:SqL X.K H a xs)(h':SqL X.K H a ys):xs=ys:=by
 obtain⟨its,r,⟨o,n,e,_,_,d⟩,_⟩:=I.list h
 obtain⟨its',r',⟨o',n',e',_,_,d'⟩,_⟩:=I.list h'
 rw[e]at e';cases e'
 rw[d]at d'
 injection d' with d1 _
 have:its=its':=by simpa using congrArg Array.toList d1
 subst this
 exact r.inj r'
theorem Inv.tuple_inj(I:Inv X pins σ H s)(h:SqT X.K H a xs)(h':SqT X.K H a ys):xs=ys:=by
 obtain⟨its,r,⟨o,e,_,n,d⟩,_⟩:=I.tuple h
 obtain⟨its',r',⟨o',e',_,n',d'⟩,_⟩:=I.tuple h'
 rw[e]at e';cases e'
 rw[d]at d'
 injection d' with d1 _
 have:its=its':=by simpa using congrArg Array.toList d1
 subst this
 exact r.inj r'
end
noncomputable abbrev Cx.wish(X:Cx)(E:Value→Shared→Prop):Cx:={X with xe:=E}
noncomputable abbrev Cx.nox(X:Cx):Cx:=X.wish fun _ _=>False
theorem Cx.Ok.wish{X:Cx}(ok:X.Ok)(E:Value→Shared→Prop):(X.wish E).Ok:=
 ⟨ok.mod,ok.kind,ok.glob,ok.blt,ok.above,ok.inj,ok.has,ok.cab,ok.hd,ok.frames,ok.stk,ok.exf,ok.bs,ok.bsz,ok.noex,ok.exfs,ok.funs,ok.frf⟩
theorem Cx.Ok.unwish{X:Cx}{E:Value→Shared→Prop}(ok:(X.wish E).Ok):X.Ok:=
 ⟨ok.mod,ok.kind,ok.glob,ok.blt,ok.above,ok.inj,ok.has,ok.cab,ok.hd,ok.frames,ok.stk,ok.exf,ok.bs,ok.bsz,ok.noex,ok.exfs,ok.funs,ok.frf⟩
section
variable{X:Cx}{pins:List (Addr×Obj)}{σ:St}{H:Hp}{s:Shared}{E:Value→Shared→Prop}
theorem Inv.wish(I:Inv X pins σ H s)(E:Value→Shared→Prop):Inv (X.wish E) pins σ H s:=⟨I.ok.wish E,I.os,I.bare,I.base,I.loc,I.cell,I.free,I.freeC,I.pin,I.hok,I.len⟩
theorem Inv.unwish(I:Inv (X.wish E) pins σ H s):Inv X pins σ H s:=⟨I.ok.unwish,I.os,I.bare,I.base,I.loc,I.cell,I.free,I.freeC,I.pin,I.hok,I.len⟩
theorem SP.unwish{D:Ends}{f:Flow}{s':Shared}(h:SP (X.wish E) pins D f s'):SP X pins D f s':=by
 cases f with
 |next=>obtain⟨σ',H',I,q⟩:=h;exact⟨σ',H',I.unwish,q⟩
 |brk=>obtain⟨σ',H',I,q⟩:=h;exact⟨σ',H',I.unwish,q⟩
 |cont=>obtain⟨σ',H',I,q⟩:=h;exact⟨σ',H',I.unwish,q⟩
 |ret u=>obtain⟨v,σ',H',I,r,q⟩:=h;exact⟨v,σ',H',I.unwish,r,q⟩
theorem PSs.nox{st:List Stmt}{t:TS}(h:PSs X.nox st t):PSs X st t:=fun pins s σ H D I hw=>
 wpAny_mono (h pins s σ H D (I.wish _) hw) (fun _ _ q=>q.unwish) fun _ _ z=>False.elim z
end
section
variable{X:Cx}{st:Stmt}{rest:List Stmt}{t u:TS}{e:Expr}{te:TE}{pos:Pos}
noncomputable def Zq2:TS:=fun D σ H=>D.nx σ H
noncomputable def tSeq(t u:TS):TS:=fun D σ H=>t {D with nx:=u D} σ H
theorem Zom:PSs X [] Zq2:=fun _ _ σ H _ I h=>wpAny_execs_nil ⟨σ,H,I,h⟩
theorem Zl9(h1:PS X st t)(h2:PSs X rest u):PSs X (st::rest) (tSeq t u):=by
 intro pins s σ H D I h
 refine wpAny_execs_cons (thn (h1 pins s σ H {D with nx:=u D} I h) fun f s1 q=>?_)
 cases f with
 |next=>
  obtain⟨σ',H',I',q⟩:=q
  exact h2 pins s1 σ' H' D I' q
 |ret v=>exact q
 |brk=>exact q
 |cont=>exact q
theorem Zon(h1:PS X st t):PSs X [st] t:=by
 intro pins s σ H D I h
 refine wpAny_execs_cons (thn (h1 pins s σ H D I h) fun f s1 q=>?_)
 cases f with
 |next=>exact wpAny_execs_nil q
 |ret v=>exact q
 |brk=>exact q
 |cont=>exact q
noncomputable def Zxc:TS:=fun D σ H=>D.bk σ H
noncomputable def Zy1:TS:=fun D σ H=>D.ct σ H
theorem Inv.quiet{pins:List (Addr×Obj)}{σ:St}{H:Hp}{s:Shared}(I:Inv X pins σ H s):interactive X.env=false:=by simp[interactive,I.ok.kind]
noncomputable def Zq3(te:TE):TS:=fun D σ H=>te σ H fun _ H1=>D.nx σ H1
theorem Zoo(he:PE X e te)(hs:swapsWith e none pos.line X.env=pure false:=by rfl):PS X (.Expr e pos) (Zq3 te):=by
 intro pins s σ H D I h
 exact wpAny_Expr_any (thn (he pins s σ H _ I h) fun v s1 ⟨x,H1,I1,r1,q1⟩=>⟨σ,H1,I1,q1⟩) I.quiet hs
noncomputable def tRet(te:TE):TS:=fun D σ H=>te σ H D.rt
theorem Zq4(he:PE X e te):PS X (.Return (some e) pos) (tRet te):=by
 intro pins s σ H D I h
 exact wpAny_Return_some (thn (he pins s σ H _ I h) fun v s1 ⟨x,H1,I1,r1,q1⟩=>⟨x,σ,H1,I1,r1,q1⟩)
noncomputable def Zy2:TS:=fun D _ H=>D.rt .non H
noncomputable def tIfS(c:TT)(t u:TS):TS:=fun D σ H=>c σ H fun b H1=>if b=true then t D σ H1 else u D σ H1
theorem Zuw{c:Expr}{a b:List Stmt}{tc:TT}(hc:PT X c tc)(ha:PSs X a t)(hb:PSs X b u):PS X (.If c a b pos) (tIfS tc t u):=by
 intro pins s σ H D I h
 refine wpAny_If (thn (hc pins s σ H _ I h) fun d s1 zq9=>?_)
 obtain⟨H1,I1,q1⟩:=zq9
 cases d with
 |true=>exact ha pins s1 σ H1 D I1 q1
 |false=>exact hb pins s1 σ H1 D I1 q1
noncomputable def Zxd:TS:=fun _ _ _=>False
end
noncomputable abbrev TG:=V→St→Hp→(St→Hp→Prop)→Prop
noncomputable abbrev TGs:=List V→St→Hp→(St→Hp→Prop)→Prop
noncomputable def PG(X:Cx)(target:Expr)(t:TG):Prop:=
 ∀(pins:List (Addr×Obj)) (s:Shared) (σ:St) (H:Hp) (v:V) (u:Value) (Q:St→Hp→Prop),Inv X pins σ H s→RelV v u→t v σ H Q→
  wpAny (model X.prog X.w) X.A (assign target X.env u) (fun _ s'=>∃σ' H',Inv X pins σ' H' s'∧Q σ' H') X.xe s
noncomputable def PGs(X:Cx)(ts:List Expr)(t:TGs):Prop:=
 ∀(pins:List (Addr×Obj)) (s:Shared) (σ:St) (H:Hp) (vs:List V) (us:List Value) (Q:St→Hp→Prop),Inv X pins σ H s→Vals vs us→t vs σ H Q→
  wpAny (model X.prog X.w) X.A (assignInOrder ((assignEach ts X.env).map (·.2)) us) (fun _ s'=>∃σ' H',Inv X pins σ' H' s'∧Q σ' H') X.xe s
noncomputable abbrev TSet:=V→V→V→Hp→(Hp→Prop)→Prop
noncomputable def PSet(X:Cx)(t:TSet):Prop:=
 ∀(pins:List (Addr×Obj)) (s:Shared) (σ:St) (H:Hp) (o i v:V) (ov iv u:Value) (Q:Hp→Prop),Inv X pins σ H s→RelV o ov→RelV i iv→RelV v u→t o i v H Q→
  wpAny (model X.prog X.w) X.A (setItem ov iv u) (fun _ s'=>∃H',Inv X pins σ H' s'∧Q H') X.xe s
noncomputable abbrev TIp:=V→V→Hp→VK→Prop
noncomputable def PIp(X:Cx)(op:Operator)(t:TIp):Prop:=
 ∀(pins:List (Addr×Obj)) (s:Shared) (σ:St) (H:Hp) (x y:V) (v u:Value) (Q:VK),Inv X pins σ H s→RelV x v→RelV y u→t x y H Q→
  wpAny (model X.prog X.w) X.A (inplaceOp op v u) (EP X pins σ Q) X.xe s
section
variable{X:Cx}{pos:Pos}
noncomputable def Zir(i:Nat):TG:=fun v σ H Q=>Q (σ.set i (some v)) H
theorem Zop{i:Nat}{x:Str}(hN:X.N.Nodup)(hi:X.N[i]? =some x)(hx:Loc X.env.scope x)(hf:X.fn x=true∨X.env.scope.names.lookup x=some .local:=by first|exact .inl rfl|exact .inr rfl|assumption):PG X (.Name x pos) (Zir i):=by
 intro pins s σ H v u Q I r h
 exact wpAny_assign_Name (Zho I hN hi hx r (fun s' I'=>⟨_,H,I',h⟩) hf)
noncomputable def gNil:TGs:=fun vs σ H Q=>vs=[]∧Q σ H
noncomputable def Zq5(t:TG)(u:TGs):TGs:=fun vs σ H Q=>∃v r,vs=v::r∧t v σ H fun σ' H'=>u r σ' H' Q
theorem Zoq:PGs X [] gNil:=by
 intro pins s σ H vs us Q I r h
 obtain⟨e,h⟩:=h
 subst e
 cases r
 exact assignInOrder_nil ⟨σ,H,I,h⟩
theorem Zma{e:Expr}{es:List Expr}{t:TG}{u:TGs}(h1:PG X e t)(h2:PGs X es u)
  (hs:(assignEach (e::es) X.env).map (·.2)=assign e X.env::(assignEach es X.env).map (·.2):=by rfl):PGs X (e::es) (Zq5 t u):=by
 intro pins s σ H vs us Q I r h
 obtain⟨v,vr,e1,h⟩:=h
 subst e1
 cases r with
 |cons r rr=>
  rw[hs]
  refine assignInOrder_cons (thn (h1 pins s σ H _ _ _ I r h) fun _ s1 zq9=>?_)
  obtain⟨σ1,H1,I1,q1⟩:=zq9
  exact h2 pins s1 σ1 H1 _ _ Q I1 rr q1
noncomputable def gTup(K:PySem.W.Frag)(n:Nat)(t:TGs):TG:=fun v σ H Q=>∃a xs,v= .ref a∧SqT K H a xs∧xs.length=n∧t xs σ H Q
theorem Zq6{es:List Expr}{k:Nat}{t:TGs}{n:Nat}(hc:X.calm=true)(h:PGs X es t)
  (hn:(assignEach es X.env).length=n:=by rfl) (hst:(assignEach es X.env).findIdx? (·.1)=none:=by rfl):PG X (.Tuple es k pos) (gTup X.K n t):=by
 intro pins s σ H v u Q I r hw
 obtain⟨a,xs,e1,hq,hl,hw⟩:=hw
 subst e1
 cases r
 obtain⟨its,rv,ht,hz⟩:=I.tuple hq
 refine assign_Tuple_tuple (I.ok.hd hc) ht (by simp[hn,←hl,rv.length]) hst fun h' hx=>?_
 have I1:Inv X pins σ H {s with heap:=h'}:=I.kept (t':=s.toks) fun b o e=>hx b o (Nat.ne_of_lt (Heap.lt_size e)) e
 exact h pins _ σ H xs _ Q I1 (by simpa using rv) hw
noncomputable def gSub(to ti:TE)(t:TSet):TG:=fun v σ H Q=>to σ H fun o H1=>ti σ H1 fun i H2=>t o i v H2 fun H3=>Q σ H3
noncomputable def tAsg(te:TE)(g:TG):TS:=fun D σ H=>te σ H fun x H1=>g x σ H1 D.nx
theorem Zq7{tg e:Expr}{te:TE}{g:TG}(he:PE X e te)(hg:PG X tg g)(hs:swapsWithSole [tg] e pos.line X.env=pure false:=by rfl)(hw:swappedStores [tg] e X.env=pure none:=by rfl)
  (h1:(assignEach [tg] X.env).map (·.2)=[assign tg X.env]:=by rfl):PS X (.Assign [tg] e pos) (tAsg te g):=by
 intro pins s σ H D I h
 refine wpAny_Assign_stores (thn (he pins s σ H _ I h) fun v s1 ⟨x,H1,I1,r1,q1⟩=>?_) hs hw
 rw[h1]
 exact thn (hg pins s1 σ H1 x v _ I1 r1 q1) fun _ s2 q=>q
theorem Zq8{i:Nat}{x:Str}{e:Expr}{te:TE}{pos':Pos}(hN:X.N.Nodup)(hi:X.N[i]? =some x)(hx:Loc X.env.scope x)(he:PE X e te)(hs:swapsWith e (some (.Name x pos')) pos.line X.env=pure false:=by rfl)(hf:X.fn x=true∨X.env.scope.names.lookup x=some .local:=by first|exact .inl rfl|exact .inr rfl|assumption):
  PS X (.Assign [.Name x pos'] e pos) (tAsg te (Zir i)):=by
 intro pins s σ H D I h
 refine wpAny_Assign_Name (thn (he pins s σ H _ I h) fun v s1 ⟨y,H1,I1,r1,q1⟩=>?_) hs
 exact Zho I1 hN hi hx r1 (fun s2 I2=>⟨_,H1,I2,q1⟩) hf
noncomputable def tPar(i j:Nat)(ta:TA):TS:=fun D σ H=>ta σ H fun vs H1=>∃v w,vs=[v,w]∧D.nx ((σ.set i (some v)).set j (some w)) H1
noncomputable def tAug(i:Nat)(te:TE)(ti:TIp):TS:=fun D σ H=>∃x,σ[i]? =some (some x)∧te σ H fun y H1=>ti x y H1 fun z H2=>D.nx (σ.set i (some z)) H2
noncomputable def Zy3(to ti te:TE)(tget:V→V→Hp→VK→Prop)(tip:TIp)(tset:TSet):TS:=fun D σ H=>to σ H fun o H1=>ti σ H1 fun i H2=>tget o i H2 fun x H3=>te σ H3 fun y H4=>tip x y H4 fun z H5=>tset o i z H5 fun H6=>D.nx σ H6
noncomputable def PGet(X:Cx)(t:V→V→Hp→VK→Prop):Prop:=
 ∀(pins:List (Addr×Obj)) (s:Shared) (σ:St) (H:Hp) (o i:V) (ov iv:Value) (Q:VK),Inv X pins σ H s→RelV o ov→RelV i iv→t o i H Q→
  wpAny (model X.prog X.w) X.A (getItem ov iv) (EP X pins σ Q) X.xe s
noncomputable def ipI(f:Int→Int→Int):TIp:=fun x y H Q=>∃i j,x= .int i∧y= .int j∧Q (.int (f i j)) H
end
section
variable{X:Cx}{pos:Pos}
noncomputable def Znp(c:TT)(tb:TS):TS:=fun D σ H=>∃W:Nat→St→Hp→Prop,(∃m,W m σ H)∧∀m σ H,W m σ H→
 c σ H fun b H1=>if b=true then∃N:St→Hp→Prop,(∀σ' H',N σ' H'→∃m',m'<m∧W m' σ' H')∧tb {D with nx:=N,ct:=N,bk:=D.nx} σ H1 else D.nx σ H1
theorem Zmb{c:Expr}{body:List Stmt}{tc:TT}{tb:TS}(hp:PassesOwn (model X.prog X.w) X.A X.env X.xe)(hc:PT X c tc)(hb:PSs X body tb):PS X (.While c body [] pos) (Znp tc tb):=by
 intro pins s σ H D I h
 obtain⟨W,⟨m0,w0⟩,turn⟩:=h
 refine wpAny_While (codeAny_whileLoop (fun n s'=>∃σ' H',Inv X pins σ' H' s'∧W n σ' H') ?_ m0 ⟨σ,H,I,w0⟩)
 rintro n s1 ⟨σ1,H1,I1,w1⟩
 refine wpAny_passesOwn hp (thn (hc pins s1 σ1 H1 _ I1 (turn n σ1 H1 w1)) fun b s2 zq9=>?_)
 obtain⟨H2,I2,q2⟩:=zq9
 cases b with
 |true=>
  obtain⟨N,hN,q2⟩:=q2
  rw[if_pos rfl]
  refine wpAny_passesOwn hp (thn (hb pins s2 σ1 H2 _ I2 q2) fun f s3 q3=>?_)
  cases f with
  |next=>
   obtain⟨σ3,H3,I3,n3⟩:=q3
   obtain⟨m',hm,w3⟩:=hN σ3 H3 n3
   exact⟨m',hm,σ3,H3,I3,w3⟩
  |cont=>
   obtain⟨σ3,H3,I3,n3⟩:=q3
   obtain⟨m',hm,w3⟩:=hN σ3 H3 n3
   exact⟨m',hm,σ3,H3,I3,w3⟩
  |brk=>exact q3
  |ret v=>exact q3
 |false=>
  rw[if_neg Bool.false_ne_true]
  exact wpAny_execs_nil ⟨σ1,H2,I2,q2⟩
end
set_option genInjectivity false in
structure It where
 go:Nat→Hp→Prop
 yld:Nat→Hp→V→Hp→Prop
 stop:Nat→Hp→Prop
noncomputable def FpOk(X:Cx)(pins:List (Addr×Obj))(H:Hp)(b:Addr):Prop:=
 H b=none∧b≠X.env.locals∧b∉X.fs∧(b∈X.ex∨X.s₀.heap.objs.size≤b)∧(∀x c,X.env.cells.lookup x=some c→c≠b)∧∀p∈X.pn++pins,p.1≠b
theorem Inv.fpOk{X:Cx}{pins:List (Addr×Obj)}{σ:St}{H H':Hp}{s:Shared}{b:Addr}(I:Inv X pins σ H s)(hb:s.heap.objs.size≤b)(hn:H' b=none):FpOk X pins H' b:=by
 refine⟨hn,Nat.ne_of_gt (Nat.lt_of_lt_of_le I.lt hb),I.nofs hb,.inr (Nat.le_trans I.sz hb),fun x c e z=>?_,fun p hp z=>?_⟩
 ·obtain⟨v,q⟩:=I.cell x c e
  exact absurd (Nat.lt_of_lt_of_le q.lt (by rw[z];exact hb)) (Nat.lt_irrefl _)
 ·exact absurd (Nat.lt_of_lt_of_le (Heap.lt_size (I.pin p hp).1) (by rw[z];exact hb)) (Nat.lt_irrefl _)
structure Turn(P:Program)(w:World)(K:PySem.W.Frag)(tg:Expr)(J:It)(fp:List Addr)(it:Addr)(tn:Nat→Heap→Prop):Prop where
 mem:it∈fp
 obj:∀i h,tn i h→∀b∈fp,∃o,h.get? b=some o∧∀v,o.data≠.cell v
 keep:∀i h h',tn i h→(∀b∈fp,∀o,h.get? b=some o→h'.get? b=some o)→tn i h'
 item:∀(X:Cx),X.prog=P→X.w=w→X.K=K→X.calm=true→∀(i:Nat) (pins:List (Addr×Obj)) (s:Shared) (σ:St) (H:Hp) (E:Value→Shared→Prop),Inv X pins σ H s→(∀b∈fp,FpOk X pins H b)→tn i s.heap→J.go i H→
  wpAny (model P w) X.A (pyNext (.ref it)) (fun r s1=>∃u,r=some u∧
   wpAny (model P w) X.A (letOwnedTupleGo tg (.ref it) u) (fun _ s2=>∃x H',Inv X pins σ H' s2∧RelV x u∧J.yld i H x H'∧tn (i+1) s2.heap∧∀b∈fp,H' b=none) E s1) E s
 done:∀(X:Cx),X.prog=P→X.w=w→X.K=K→X.calm=true→∀(i:Nat) (pins:List (Addr×Obj)) (s:Shared) (σ:St) (H:Hp) (E:Value→Shared→Prop),Inv X pins σ H s→(∀b∈fp,FpOk X pins H b)→tn i s.heap→J.stop i H→
  wpAny (model P w) X.A (pyNext (.ref it)) (fun r s1=>r=none∧Inv X pins σ H s1) E s
 self:∀(A:Around) (i:Nat) (s:Shared) (Q:Value→Shared→Prop) (E:Value→Shared→Prop),tn i s.heap→Q (.ref it) s→wpAny (model P w) A (pyIter (.ref it)) Q E s
noncomputable abbrev TI:=St→Hp→(It→Hp→Prop)→Prop
noncomputable def PIE(X:Cx)(pins:List (Addr×Obj))(σ:St)(tg:Expr)(R:It→Hp→Prop)(itv:Value)(s2:Shared):Prop:=
 ∃(it:Addr) (fp:List Addr) (tn:Nat→Heap→Prop) (J:It) (H':Hp),itv= .ref it∧Inv X pins σ H' s2∧Turn X.prog X.w X.K tg J fp it tn∧tn 0 s2.heap∧(∀b∈fp,FpOk X pins H' b)∧R J H'
noncomputable def PI(X:Cx)(tg iter:Expr)(wi:TI):Prop:=
 ∀(pins:List (Addr×Obj)) (s:Shared) (σ:St) (H:Hp) (R:It→Hp→Prop),Inv X pins σ H s→wi σ H R→
  wpAny (model X.prog X.w) X.A (eval iter X.env) (fun v s1=>wpAny (model X.prog X.w) X.A (pyIter v) (PIE X pins σ tg R) X.xe s1) X.xe s
theorem Zmc{M:Model}{A:Around}{E:Value→Shared→Prop}{s:Shared}{tg:Expr}{it:Addr}{u:Value}{o:Obj}{n:String}{vs:Array Value}{Q:Unit→Shared→Prop}(ho:s.heap.get? it=some o)(hc:o.cls= .type n)(hd:o.data= .fields vs)
    (hn:["enumerate","zip","dict_itemiterator","dict_reverseitemiterator","odict_iterator","itertools.zip_longest","itertools.pairwise"].contains n=false) (hQ:Q () s):wpAny M A (letOwnedTupleGo tg (.ref it) u) Q E s:=by
  unfold letOwnedTupleGo
  cases tg<;> first
    |exact wpAny_pure hQ
    | (cases u<;> first
        |exact wpAny_pure hQ
        | (refine wpAny_bind (wpAny_load ho ?_)
           rw[hc,hd]
           show wpAny M A (if(["enumerate","zip","dict_itemiterator","dict_reverseitemiterator","odict_iterator","itertools.zip_longest","itertools.pairwise"].contains n&&vs[0]? ==some (rawInt _))=true then _ else _) Q E s
           rw[if_neg (by intro h;rw[hn,Bool.false_and]at h;cases h)]
           exact wpAny_pure hQ))
noncomputable def Itl(K:PySem.W.Frag)(a:Addr):It:=
 ⟨fun i H=>∃xs x,SqL K H a xs∧xs[i]? =some x,fun i H x H'=>H'=H∧∀xs,SqL K H a xs→xs[i]? =some x,fun i H=>∃xs,SqL K H a xs∧xs.length≤i⟩
noncomputable def Itt(K:PySem.W.Frag)(a:Addr):It:=
 ⟨fun i H=>∃xs x,SqT K H a xs∧xs[i]? =some x,fun i H x H'=>H'=H∧∀xs,SqT K H a xs→xs[i]? =some x,fun i H=>∃xs,SqT K H a xs∧xs.length≤i⟩
noncomputable def Itr(lo:Int)(n:Nat):It:=⟨fun i _=>i<n,fun i H x H'=>H'=H∧x= .int (lo+i),fun i _=>n≤i⟩
theorem Zjj{P:Program}{w:World}{K:PySem.W.Frag}{tg:Expr}(a it:Addr):Turn P w K tg (Itl K a) [it] it (fun i h=>h.IsListIter it a i)where
 mem:=by simp
 obj:=fun i h st b hb=>by
  have e:b=it:=by simpa using hb
  subst e
  obtain⟨o,e,c,d⟩:=st
  exact⟨o,e,fun v z=>by rw[d]at z;cases z⟩
 keep:=fun i h h' st k=>st.at fun o e=>k it (by simp) o e
 item:=by
  intro X hP hw hK hc i pins s σ H E I hf st hg
  subst hP hw hK
  obtain⟨xs,x,hq,hx⟩:=hg
  obtain⟨its,rv,p,hz⟩:=I.list hq
  obtain⟨u,hu,ru⟩:=rv.get hx
  obtain⟨f0,f1,f2,f3,f4,f5⟩:=hf it (by simp)
  refine wpAny_pyNext_list_item st p.isList (x:=u) (by simpa using hu) fun h' st' sb=>?_
  have I1:Inv X pins σ H {s with heap:=h'}:=I.turned (t':=s.toks) (fun b o hb e=>(sb.2 b hb).trans e) f0 f1 f3 f4 f5
  obtain⟨o,e,c,d⟩:=id st'
  exact⟨u,rfl,Zmc (s:={s with heap:=h'}) e c d (by decide) ⟨x,H,I1,ru,⟨rfl,fun ys hy=>by rw[I.list_inj hy hq];exact hx⟩,st',fun b hb=>(hf b hb).1⟩⟩
 done:=by
  intro X hP hw hK hc i pins s σ H E I hf st hg
  subst hP hw hK
  obtain⟨xs,hq,hx⟩:=hg
  obtain⟨its,rv,p,hz⟩:=I.list hq
  obtain⟨f0,f1,f2,f3,f4,f5⟩:=hf it (by simp)
  have hl:=rv.length
  exact wpAny_pyNext_list_end (I.ok.hd hc) st p.isList (by simp;omega) fun h' eb=>⟨rfl,I.turned (t':=s.toks) (fun b o hb e=>eb b o hb e) f0 f1 f3 f4 f5⟩
 self:=fun _ _ _ _ _ st h=>wpAny_pyIter_listiter st h
theorem Zis{P:Program}{w:World}{K:PySem.W.Frag}{tg:Expr}(a it:Addr):Turn P w K tg (Itt K a) [it] it (fun i h=>h.IsTupleIter it a i)where
 mem:=by simp
 obj:=fun i h st b hb=>by
  have e:b=it:=by simpa using hb
  subst e
  obtain⟨o,e,c,d⟩:=st
  exact⟨o,e,fun v z=>by rw[d]at z;cases z⟩
 keep:=fun i h h' st k=>st.at fun o e=>k it (by simp) o e
 item:=by
  intro X hP hw hK hc i pins s σ H E I hf st hg
  subst hP hw hK
  obtain⟨xs,x,hq,hx⟩:=hg
  obtain⟨its,rv,p,hz⟩:=I.tuple hq
  obtain⟨u,hu,ru⟩:=rv.get hx
  obtain⟨f0,f1,f2,f3,f4,f5⟩:=hf it (by simp)
  refine wpAny_pyNext_tuple_item st (show s.heap.IsTuple a its.toArray from p) (x:=u) (by simpa using hu) fun h' st' sb=>?_
  have I1:Inv X pins σ H {s with heap:=h'}:=I.turned (t':=s.toks) (fun b o hb e=>(sb.2 b hb).trans e) f0 f1 f3 f4 f5
  obtain⟨o,e,c,d⟩:=id st'
  exact⟨u,rfl,Zmc (s:={s with heap:=h'}) e c d (by decide) ⟨x,H,I1,ru,⟨rfl,fun ys hy=>by rw[I.tuple_inj hy hq];exact hx⟩,st',fun b hb=>(hf b hb).1⟩⟩
 done:=by
  intro X hP hw hK hc i pins s σ H E I hf st hg
  subst hP hw hK
  obtain⟨xs,hq,hx⟩:=hg
  obtain⟨its,rv,p,hz⟩:=I.tuple hq
  obtain⟨f0,f1,f2,f3,f4,f5⟩:=hf it (by simp)
  have hl:=rv.length
  exact wpAny_pyNext_tuple_end (I.ok.hd hc) st (show s.heap.IsTuple a its.toArray from p) (by simp;omega) fun h' eb=>⟨rfl,I.turned (t':=s.toks) (fun b o hb e=>eb b o hb e) f0 f1 f3 f4 f5⟩
 self:=fun _ _ _ _ _ st h=>wpAny_pyIter_tupleiter st h
theorem Zit{P:Program}{w:World}{K:PySem.W.Frag}{tg:Expr}(it:Addr)(lo:Int)(n:Nat):Turn P w K tg (Itr lo n) [it] it (fun i h=>IsRangeIter h it (lo+(i:Nat)*1) ((n:Int)- (i:Nat)) 1)where
 mem:=by simp
 obj:=fun i h st b hb=>by
  have e:b=it:=by simpa using hb
  subst e
  exact⟨_,st,fun v z=>by
   have z':Data.fields _=Data.cell v:=z
   cases z'⟩
 keep:=fun i h h' st k=>k it (by simp) _ st
 item:=by
  intro X hP hw hK hc i pins s σ H E I hf st hg
  subst hP hw hK
  obtain⟨f0,f1,f2,f3,f4,f5⟩:=hf it (by simp)
  have W:=Walks.range (prog:=X.prog) (w:=X.w) (I.ok.hd hc) it lo 1 n
  refine W.item i s _ _ hg st fun v h' tk hv st' kk=>?_
  obtain⟨t,rfl⟩:=hv
  have I1:Inv X pins σ H {s with heap:=h',toks:=tk}:=I.turned (fun b o hb e=>kk b o (by simpa using hb) e) f0 f1 f3 f4 f5
  refine⟨_,rfl,Zmc (s:={s with heap:=h',toks:=tk}) (n:="range_iterator") st' rfl rfl (by decide) ⟨.int (lo+i),H,I1,⟨t,?_⟩,⟨rfl,rfl⟩,st',fun b hb=>(hf b hb).1⟩⟩
  rw[Int.mul_one]
 done:=by
  intro X hP hw hK hc i pins s σ H E I hf st hg
  subst hP hw hK
  obtain⟨f0,f1,f2,f3,f4,f5⟩:=hf it (by simp)
  exact wpAny_pyNext_range_end (I.ok.hd hc) st (by have:n≤i:=hg;omega) fun h' eb=>⟨rfl,I.turned (t':=s.toks) (fun b o hb e=>eb b o hb e) f0 f1 f3 f4 f5⟩
 self:=fun _ _ _ _ _ st h=>wpAny_pyIter_rangeiter st h
end L2
namespace L2
open PySem PySem.Spec PyProof.Rows
section
variable{X:Cx}{tg:Expr}
noncomputable def Zy4(K:PySem.W.Frag)(tl:TE):TI:=fun σ H R=>tl σ H fun x H1=>∃a,x= .ref a∧(∃xs,SqL K H1 a xs)∧R (Itl K a) H1
noncomputable def iTup(K:PySem.W.Frag)(tl:TE):TI:=fun σ H R=>tl σ H fun x H1=>∃a,x= .ref a∧(∃xs,SqT K H1 a xs)∧R (Itt K a) H1
theorem Zmd{pins:List (Addr×Obj)}{σ:St}{H:Hp}{s:Shared}{R:It→Hp→Prop}{E:Value→Shared→Prop}{lo hi:Int}{t u v:Tok}{tk:Nat}(I:Inv X pins σ H s)(h1:-(2^62)≤lo)(h2:lo<2^62)(h3:-(2^62)≤hi)(h4:hi<2^62)
  (q:R (Itr lo (hi- lo).toNat) H):wpAny (model X.prog X.w) X.A (pyIter (.ref s.heap.objs.size)) (PIE X pins σ tg R) E {s with heap:=s.heap.push {cls:=.type "range",data:=.fields #[.int lo t,.int hi u,.int 1 v]},toks:=tk}:=by
 refine wpAny_pyIter_range (IsRange.new ..) (small_one h1 h2 h3 h4) ?_
 have I1:Inv X pins σ H {s with heap:=s.heap.push {cls:=.type "range",data:=.fields #[.int lo t,.int hi u,.int 1 v]},toks:=tk}:=I.kept fun b o e=>Heap.get?_push_of_some _ e
 refine⟨(s.heap.push {cls:=.type "range",data:=.fields #[.int lo t,.int hi u,.int 1 v]}).objs.size,[(s.heap.push {cls:=.type "range",data:=.fields #[.int lo t,.int hi u,.int 1 v]}).objs.size],_,_,H,rfl,
  I1.kept (t':=tk) fun b o e=>Heap.get?_push_of_some _ e,Zit _ lo (hi- lo).toNat,?_,fun b hb=>?_,q⟩
 ·have e1:lo+((0:Nat):Int)*1=lo:=by simp
  have e2:(((hi- lo).toNat:Nat):Int)- ((0:Nat):Int)=Builtin.Range.rangeSize lo hi 1:=by rw[rangeSize_one];split<;> omega
  show IsRangeIter _ _ (lo+((0:Nat):Int)*1) ((((hi- lo).toNat:Nat):Int)- ((0:Nat):Int)) 1
  rw[e1,e2]
  exact Heap.get?_push_size _ rfl
 ·have e:b=(s.heap.push {cls:=.type "range",data:=.fields #[.int lo t,.int hi u,.int 1 v]}).objs.size:=by simpa using hb
  subst e
  exact I1.fpOk (Nat.le_refl _) (I1.hok.fresh (Nat.le_refl _))
noncomputable def Zq9(ta:TA):TI:=fun σ H R=>ta σ H fun vs H1=>∃j:Int,vs=[.int j]∧-(2^62)≤j∧j<2^62∧R (Itr 0 j.toNat) H1
noncomputable def Zy5(ta:TA):TI:=fun σ H R=>ta σ H fun vs H1=>∃i j:Int,vs=[.int i,.int j]∧(-(2^62)≤i∧i<2^62∧-(2^62)≤j∧j<2^62)∧R (Itr i (j- i).toNat) H1
theorem Zjk{a:Expr}{ta:TA}{p pos:Pos}(hg:Gl X "range")(hm:X.mg "range"=none)(ha:PA X [a] ta)(hs:starEach [a] X.env=[(false,eval a X.env)]:=by rfl):PI X tg (.Call (.Name "range" p) [a] [] pos) (Zq9 ta):=by
 intro pins s σ H R I h
 refine Call_ (Zc5 I hg hm boot_range (PyProof.Rows.callWith_type1 (thn (ha pos pins s σ H _ I h) fun us s1 ⟨vs,H1,I1,r1,q1⟩=>?_) hs rfl))
 obtain⟨j,e,q1,q2,q⟩:=q1
 subst e
 cases r1 with
 |cons r rr=>
  cases rr
  obtain⟨t,rfl⟩:=r
  exact call_range_1 (Zmd I1 (by omega) (by omega) q1 q2 (by simpa using q))
noncomputable def tFor(wi:TI)(g:TG)(tb:TS):TS:=fun D σ H=>wi σ H fun J H1=>∃W:Nat→Nat→St→Hp→Prop,(∃m,W 0 m σ H1)∧∀i m σ H,W i m σ H→
 (J.stop i H∧D.nx σ H)∨(J.go i H∧∃N:St→Hp→Prop,(∀σ' H',N σ' H'→∃m',m'<m∧W (i+1) m' σ' H')∧∀x H',J.yld i H x H'→g x σ H' fun σ2 H2=>tb {D with nx:=N,ct:=N,bk:=D.nx} σ2 H2)
noncomputable def Ze7(fp:List Addr)(h:Heap):List (Addr×Obj):=fp.filterMap fun b=>(h.get? b).map fun o=>(b,o)
theorem Zbm{fp:List Addr}{h:Heap}{b:Addr}{o:Obj}(hb:b∈fp)(e:h.get? b=some o):(b,o)∈Ze7 fp h:=List.mem_filterMap.mpr ⟨b,hb,by rw[e];rfl⟩
theorem Zjl{fp:List Addr}{h:Heap}{p:Addr×Obj}(hp:p∈Ze7 fp h):p.1∈fp∧h.get? p.1=some p.2:=by
 obtain⟨b,hb,e⟩:=List.mem_filterMap.mp hp
 cases q:h.get? b with
 |none=>rw[q]at e;cases e
 |some o=>
  rw[q]at e
  have e':(b,o)=p:=Option.some.inj e
  subst e'
  exact⟨hb,q⟩
theorem Inv.pinned{pins:List (Addr×Obj)}{σ:St}{H:Hp}{s:Shared}{fp:List Addr}(I:Inv X pins σ H s)(hf:∀b∈fp,FpOk X pins H b)(ho:∀b∈fp,∃o,s.heap.get? b=some o∧∀v,o.data≠.cell v):Inv X (pins++Ze7 fp s.heap) σ H s:=
 I.pins_of fun p hp=>(List.mem_append.mp hp).elim (fun z=>I.pin p (List.mem_append_right _ z)) fun z=>by
  obtain⟨hb,e⟩:=Zjl z
  obtain⟨f0,f1,f2,_⟩:=hf p.1 hb
  obtain⟨o,e',d⟩:=ho p.1 hb
  rw[e]at e';cases e'
  exact⟨e,f0,f1,f2,d⟩
theorem Inv.unpinned{pins pl:List (Addr×Obj)}{σ:St}{H:Hp}{s:Shared}(I:Inv X (pins++pl) σ H s):Inv X pins σ H s:=I.pins_of fun p hp=>I.pin p (List.mem_append_right _ (List.mem_append_left _ hp))
theorem Zra {iter : Expr} {body : List Stmt} {wi : TI} {g : TG} {tb : TS} {pos : Pos} (hp : PassesOwn (model X.prog X.w) X.A X.env X.xe) (hc : X.calm = true) (hi : PI X tg iter wi) (hg : PG X tg g) (hb : PSs X body tb)
    (hs : ∀ x, foldedSetIterable iter X.env x = pure x := by intro _; rfl) : PS X (.For tg iter body [] pos) (tFor wi g tb) := by
  intro pins s σ H D I h
  refine wpAny_For (thn (hi pins s σ H _ I h) fun v s1 h1 => thn h1 fun itv s2 h2 => ?_) hs
  obtain ⟨it, fp, tn, J, H2, e, I2, T, st2, f2, W, ⟨m0, w0⟩, turn⟩ := h2
  subst e
  -- what stays true of the iterator's objects through the loop
  have stat : ∀ {H' : Hp}, (∀ b ∈ fp, H' b = none) → ∀ b ∈ fp, FpOk X pins H' b := fun hn b hb => ⟨hn b hb, (f2 b hb).2⟩
  refine codeAny_forLoop_any (fun n s' => ∃ i σ' H', Inv X pins σ' H' s' ∧ tn i s'.heap ∧ (∀ b ∈ fp, H' b = none) ∧ W i n σ' H') ?_ m0 ⟨0, σ, H2, I2, st2, fun b hb => (f2 b hb).1, w0⟩
  rintro n s3 ⟨i, σ3, H3, I3, st3, fr3, w3⟩
  rcases turn i n σ3 H3 w3 with ⟨stop, qn⟩ | ⟨go, N, hN, step⟩
  · refine wpAny_passesOwn hp (thn (T.done X rfl rfl rfl hc i pins s3 σ3 H3 X.xe I3 (stat fr3) st3 stop) fun r s4 ⟨hr, I4⟩ => ?_)
    subst hr
    exact wpAny_execs_nil ⟨σ3, H3, I4, qn⟩
  · refine wpAny_passesOwn hp (thn (T.item X rfl rfl rfl hc i pins s3 σ3 H3 X.xe I3 (stat fr3) st3 go) fun r s4 ⟨u, hr, h4⟩ => ?_)
    subst hr
    refine wpAny_passesOwn hp (thn h4 fun _ s5 zq9 => ?_)
    obtain ⟨x, H5, I5, r5, y5, st5, fr5⟩ := zq9
    have I5' := I5.pinned (stat fr5) (T.obj _ _ st5)
    refine wpAny_passesOwn hp (thn (hg _ s5 σ3 H5 x u _ I5' r5 (step x H5 y5)) fun _ s6 zq9 => ?_)
    obtain ⟨σ6, H6, I6, q6⟩ := zq9
    refine wpAny_passesOwn hp (thn (hb _ s6 σ6 H6 _ I6 q6) fun f s7 q7 => ?_)
    have again : ∀ {σ7 : St} {H7 : Hp}, Inv X (pins ++ Ze7 fp s5.heap) σ7 H7 s7 → N σ7 H7 → ∃ m, m < n ∧ ∃ i σ' H', Inv X pins σ' H' s7 ∧ tn i s7.heap ∧ (∀ b ∈ fp, H' b = none) ∧ W i m σ' H' := fun {σ7 H7} I7 n7 => by
      obtain ⟨m', hm, w7⟩ := hN σ7 H7 n7
      refine ⟨m', hm, i + 1, σ7, H7, I7.unpinned, T.keep _ _ _ st5 fun b hb o e => (I7.pin (b, o) (List.mem_append_right _ (List.mem_append_right _ (Zbm hb e)))).1, fun b hb => ?_, w7⟩
      obtain ⟨o, e, d⟩ := T.obj _ _ st5 b hb
      exact (I7.pin (b, o) (List.mem_append_right _ (List.mem_append_right _ (Zbm hb e)))).2.1
    cases f with
    | next => obtain ⟨σ7, H7, I7, n7⟩ := q7; exact again I7 n7
    | cont => obtain ⟨σ7, H7, I7, n7⟩ := q7; exact again I7 n7
    | brk => obtain ⟨σ7, H7, I7, q7⟩ := q7; exact ⟨σ7, H7, I7.unpinned, q7⟩
    | ret v => obtain ⟨x7, σ7, H7, I7, r7, q7⟩ := q7; exact ⟨x7, σ7, H7, I7.unpinned, r7, q7⟩
end
end L2
namespace L2
open PySem PySem.Spec PyProof.Rows
noncomputable abbrev R2:=V→V→Hp→VK→Prop
noncomputable def OpR(X:Cx)(f:Value→Value→Sem Value)(r:R2):Prop:=
 ∀(pins:List (Addr×Obj)) (s:Shared) (σ:St) (H:Hp) (x y:V) (v u:Value) (Q:VK),Inv X pins σ H s→RelV x v→RelV y u→r x y H Q→
  wpAny (model X.prog X.w) X.A (f v u) (EP X pins σ Q) X.xe s
noncomputable def UnR(X:Cx)(f:Value→Sem Value)(r:V→Hp→VK→Prop):Prop:=
 ∀(pins:List (Addr×Obj)) (s:Shared) (σ:St) (H:Hp) (x:V) (v:Value) (Q:VK),Inv X pins σ H s→RelV x v→r x H Q→
  wpAny (model X.prog X.w) X.A (f v) (EP X pins σ Q) X.xe s
noncomputable def Zbv(X:Cx)(f:Value)(r:List V→Hp→VK→Prop):Prop:=
 ∀(pins:List (Addr×Obj)) (s:Shared) (σ:St) (H:Hp) (xs:List V) (us:List Value) (Q:VK),Inv X pins σ H s→Vals xs us→r xs H Q→
  wpAny (model X.prog X.w) X.A (call f us) (EP X pins σ Q) X.xe s
noncomputable def TruR(X:Cx)(r:V→Hp→(Bool→Hp→Prop)→Prop):Prop:=
 ∀(pins:List (Addr×Obj)) (s:Shared) (σ:St) (H:Hp) (x:V) (v:Value) (Q:Bool→Hp→Prop),Inv X pins σ H s→RelV x v→r x H Q→
  wpAny (model X.prog X.w) X.A (truthy v) (TP X pins σ Q) X.xe s
noncomputable def tOp(r:R2)(ta tb:TE):TE:=fun σ H Q=>ta σ H fun x H1=>tb σ H1 fun y H2=>r x y H2 Q
noncomputable def tUn(r:V→Hp→VK→Prop)(ta:TE):TE:=fun σ H Q=>ta σ H fun x H1=>r x H1 Q
noncomputable def rI(C:Int→Int→Prop)(g:Int→Int→V):R2:=fun x y H Q=>∃i j,x= .int i∧y= .int j∧C i j∧Q (g i j) H
noncomputable def rI0(g:Int→Int→V):R2:=fun x y H Q=>∃i j,x= .int i∧y= .int j∧Q (g i j) H
noncomputable def rU(g:Int→V):V→Hp→VK→Prop:=fun x H Q=>∃i,x= .int i∧Q (g i) H
section
variable{X:Cx}{a b c:Expr}{ta tb tc:TE}{pos:Pos}
theorem binT(ha:PE X a ta)(hb:PE X b tb){pins:List (Addr×Obj)}{s:Shared}{σ:St}{H:Hp}{R:V→V→Hp→Prop}(I:Inv X pins σ H s)
  (h:ta σ H fun x H1=>tb σ H1 fun y H2=>R x y H2) {Q:Value→Shared→Prop} {f:Value→Value→Sem Value}
  (hf:∀v u s2 x y H2,Inv X pins σ H2 s2→RelV x v→RelV y u→R x y H2→wpAny (model X.prog X.w) X.A (f v u) Q X.xe s2):
  wpAny (model X.prog X.w) X.A (eval a X.env) (fun v s₁=>wpAny (model X.prog X.w) X.A (eval b X.env) (fun u s₂=>wpAny (model X.prog X.w) X.A (f v u) Q X.xe s₂) X.xe s₁) X.xe s:=by
 refine thn (ha pins s σ H _ I h) fun v s1 zq9=>?_
 obtain⟨x,H1,I1,r1,q1⟩:=zq9
 refine thn (hb pins s1 σ H1 _ I1 q1) fun u s2 zq9=>?_
 obtain⟨y,H2,I2,r2,q2⟩:=zq9
 exact hf v u s2 x y H2 I2 r1 r2 q2
theorem Zux{op:Operator}{r:R2}(ho:OpR X (binaryOp op) r)(ha:PE X a ta)(hb:PE X b tb):PE X (.BinOp a op b pos) (tOp r ta tb):=by
 intro pins s σ H Q I h
 exact wpAny_BinOp (binT ha hb I h fun v u s2 x y H2 I2 rx ry q=>ho pins s2 σ H2 x y v u Q I2 rx ry q)
theorem Zuy{op:UnaryOp}{r:V→Hp→VK→Prop}(ho:UnR X (unaryOp op) r)(ha:PE X a ta):PE X (.UnaryOp op a pos) (tUn r ta):=by
 intro pins s σ H Q I h
 exact UnaryOp_ (thn (ha pins s σ H _ I h) fun v s1 ⟨x,H1,I1,r1,q1⟩=>ho pins s1 σ H1 x v Q I1 r1 q1)
theorem opI{f:Value→Value→Sem Value}{C:Int→Int→Prop}{g:Int→Int→Int}
  (rule:∀(i j:Int) (t u:Tok) (s:Shared) (Q:Value→Shared→Prop) (E:Value→Shared→Prop),C i j→Q (.int (g i j) s.toks) {s with toks:=s.toks+1}→wpAny (model X.prog X.w) X.A (f (.int i t) (.int j u)) Q E s):
  OpR X f (rI C fun i j=>.int (g i j)):=by
 intro pins s σ H x y v u Q I rx ry h
 obtain⟨i,j,rfl,rfl,hc,q⟩:=h
 obtain⟨t,rfl⟩:=rx
 obtain⟨t',rfl⟩:=ry
 exact rule i j t t' s _ _ hc ⟨.int (g i j),H,I.tok _,⟨_,rfl⟩,q⟩
theorem opI0{f:Value→Value→Sem Value}{g:Int→Int→Int}
  (rule:∀(i j:Int) (t u:Tok) (s:Shared) (Q:Value→Shared→Prop) (E:Value→Shared→Prop),Q (.int (g i j) s.toks) {s with toks:=s.toks+1}→wpAny (model X.prog X.w) X.A (f (.int i t) (.int j u)) Q E s):
  OpR X f (rI0 fun i j=>.int (g i j)):=by
 intro pins s σ H x y v u Q I rx ry h
 obtain⟨i,j,rfl,rfl,q⟩:=h
 obtain⟨t,rfl⟩:=rx
 obtain⟨t',rfl⟩:=ry
 exact rule i j t t' s _ _ ⟨.int (g i j),H,I.tok _,⟨_,rfl⟩,q⟩
theorem opB0{f:Value→Value→Sem Value}{g:Int→Int→Bool}
  (rule:∀(i j:Int) (t u:Tok) (s:Shared) (Q:Value→Shared→Prop) (E:Value→Shared→Prop),Q (.bool (g i j)) s→wpAny (model X.prog X.w) X.A (f (.int i t) (.int j u)) Q E s):
  OpR X f (rI0 fun i j=>.bl (g i j)):=by
 intro pins s σ H x y v u Q I rx ry h
 obtain⟨i,j,rfl,rfl,q⟩:=h
 obtain⟨t,rfl⟩:=rx
 obtain⟨t',rfl⟩:=ry
 exact rule i j t t' s _ _ ⟨.bl (g i j),H,I,rfl,q⟩
noncomputable def CDiv(i j:Int):Prop:=0<j∧j<1073741824
noncomputable def Zy6(i j:Int):Prop:=j≠0∧j.natAbs<1073741824
noncomputable def CPow(i j:Int):Prop:=0≤j∧j≤1000000∧i.natAbs<2^64
noncomputable def CMul(i j:Int):Prop:=(-(2^64)<i∧i<2^64)∨(-(2^64)<j∧j<2^64)
theorem CMul.ok{i j:Int}(h:CMul i j):IntMulOk i j:=by
 rcases h with⟨h1,h2⟩|⟨h1,h2⟩
 ·exact .of_left (intBits_le_64 h1 h2)
 ·exact .of_right (intBits_le_64 h1 h2)
theorem Zrb:OpR X (binaryOp .Add) (rI0 fun i j=>.int (i+j)):=opI0 fun _ _ _ _ _ _ _ q=>add_int q
theorem Zrc:OpR X (binaryOp .Mult) (rI CMul fun i j=>.int (i*j)):=opI fun _ _ _ _ _ _ _ hc q=>mul_int q hc.ok
theorem Zor:OpR X (binaryOp .FloorDiv) (rI CDiv fun i j=>.int (i / j)):=opI fun i j _ _ _ _ _ hc q=>by
 have h1:(0:Int)<j:=hc.1
 have h2:j<1073741824:=hc.2
 exact floordiv_int (by omega) (by rw[Int.fdiv_eq_ediv_of_nonneg i (by omega)];exact q) (.inl (PyProof.noPylong_small (by omega)))
theorem Zrd:OpR X (binaryOp .Mod) (rI (fun _ j=>0<j) fun i j=>.int (i % j)):=opI fun i j _ _ _ _ _ hc q=>by
 have h1:(0:Int)<j:=hc
 exact mod_int' (by omega) (by rw[Int.fmod_eq_emod_of_nonneg i (by omega)];exact q)
theorem unI{f:Value→Sem Value}{g:Int→Int}
  (rule:∀(i:Int) (t:Tok) (s:Shared) (Q:Value→Shared→Prop) (E:Value→Shared→Prop),Q (.int (g i) s.toks) {s with toks:=s.toks+1}→wpAny (model X.prog X.w) X.A (f (.int i t)) Q E s):
  UnR X f (rU fun i=>.int (g i)):=by
 intro pins s σ H x v Q I rx h
 obtain⟨i,rfl,q⟩:=h
 obtain⟨t,rfl⟩:=rx
 exact rule i t s _ _ ⟨.int (g i),H,I.tok _,⟨_,rfl⟩,q⟩
theorem Zre:UnR X (unaryOp .USub) (rU fun i=>.int (-i)):=unI fun _ _ _ _ _ q=>neg_int q
end
noncomputable def scal:V→V→Bool
 | .non,.non=>true| .non,.int _=>true| .int _,.non=>true| .non,.bl _=>true| .bl _,.non=>true| .non,.str _=>true| .str _,.non=>true
 | .int _,.int _=>true| .bl _,.bl _=>true| .str _,.str _=>true| .byt _,.byt _=>true
 | .int _,.str _=>true| .str _,.int _=>true| .bl _,.str _=>true| .str _,.bl _=>true
 |_,_=>false
noncomputable def rEq:R2:=fun x y H Q=>scal x y=true∧Q (.bl (decide (x=y))) H
noncomputable def rNe:R2:=fun x y H Q=>scal x y=true∧Q (.bl (!decide (x=y))) H
theorem Zjm{i j:Int}:decide (V.int i=V.int j)=(i==j):=by
 rw[Bool.eq_iff_iff]
 simp
theorem Znq{i j:Bool}:decide (V.bl i=V.bl j)=(i==j):=by
 rw[Bool.eq_iff_iff]
 simp
theorem Zjn{i j:Str}:decide (V.str i=V.str j)=(i==j):=by
 rw[Bool.eq_iff_iff]
 simp
theorem Zjo{i j:Array UInt8}:decide (V.byt i=V.byt j)=(i.toList==j.toList):=by
 rw[Bool.eq_iff_iff]
 cases i
 cases j
 simp
section
variable{X:Cx}{a b c:Expr}{ta tb tc:TE}{pos:Pos}
theorem Zr{pins:List (Addr×Obj)}{σ:St}{H:Hp}{s:Shared}{Q:VK}{k k':Bool}(I:Inv X pins σ H s)(q:Q (.bl k) H)(e:k=k'):EP X pins σ Q (.bool k') s:=by
 subst e
 exact⟨.bl k,H,I,rfl,q⟩
theorem Zrf:OpR X (compareOp .Eq) rEq:=by
 intro pins s σ H x y v u Q I rx ry h
 obtain⟨hs,q⟩:=h
 cases x with
 |non=>
  cases rx
  cases y with
  |non=>cases ry;exact PySem.EqNone.eq_none_none (Zr I q (by simp))
  |bl j=>cases ry;exact PySem.EqNone.eq_none_bool (Zr I q (by simp))
  |int j=>obtain⟨t',rfl⟩:=ry;exact PySem.EqNone.eq_none_int (Zr I q (by simp))
  |str j=>obtain⟨t',rfl⟩:=ry;exact PySem.EqNone.eq_none_str (Zr I q (by simp))
  |_=>exact absurd (show false=true from hs) Bool.false_ne_true
 |bl i=>
  cases rx
  cases y with
  |non=>cases ry;exact PySem.EqNone.eq_bool_none (Zr I q (by simp))
  |bl j=>cases ry;exact eq_bool (Zr I q Znq)
  |str j=>obtain⟨t',rfl⟩:=ry;exact PySem.EqMixed.eq_bool_str (Zr I q (by simp))
  |_=>exact absurd (show false=true from hs) Bool.false_ne_true
 |int i=>
  obtain⟨t,rfl⟩:=rx
  cases y with
  |non=>cases ry;exact PySem.EqNone.eq_int_none (Zr I q (by simp))
  |int j=>obtain⟨t',rfl⟩:=ry;exact eq_int (Zr I q Zjm)
  |str j=>obtain⟨t',rfl⟩:=ry;exact PySem.EqMixed.eq_int_str (Zr I q (by simp))
  |_=>exact absurd (show false=true from hs) Bool.false_ne_true
 |str i=>
  obtain⟨t,rfl⟩:=rx
  cases y with
  |non=>cases ry;exact PySem.EqNone.eq_str_none (Zr I q (by simp))
  |bl j=>cases ry;exact PySem.EqMixed.eq_str_bool (Zr I q (by simp))
  |int j=>obtain⟨t',rfl⟩:=ry;exact PySem.EqMixed.eq_str_int (Zr I q (by simp))
  |str j=>obtain⟨t',rfl⟩:=ry;exact eq_str (Zr I q Zjn)
  |_=>exact absurd (show false=true from hs) Bool.false_ne_true
 |byt i=>
  obtain⟨t,rfl⟩:=rx
  cases y with
  |byt j=>obtain⟨t',rfl⟩:=ry;exact PySem.W.eq_bytes (Zr I q Zjo)
  |_=>exact absurd (show false=true from hs) Bool.false_ne_true
 |_=>cases y<;> exact absurd (show false=true from hs) Bool.false_ne_true
theorem Zuz:OpR X (compareOp .NotEq) rNe:=by
 intro pins s σ H x y v u Q I rx ry h
 obtain⟨hs,q⟩:=h
 cases x with
 |non=>
  cases rx
  cases y with
  |non=>cases ry;exact PySem.EqNone.ne_none_none (Zr I q (by simp))
  |bl j=>cases ry;exact PySem.EqNone.ne_none_bool (Zr I q (by simp))
  |int j=>obtain⟨t',rfl⟩:=ry;exact PySem.EqNone.ne_none_int (Zr I q (by simp))
  |str j=>obtain⟨t',rfl⟩:=ry;exact PySem.EqNone.ne_none_str (Zr I q (by simp))
  |_=>exact absurd (show false=true from hs) Bool.false_ne_true
 |bl i=>
  cases rx
  cases y with
  |non=>cases ry;exact PySem.EqNone.ne_bool_none (Zr I q (by simp))
  |bl j=>cases ry;exact ne_bool (Zr I q (congrArg not Znq))
  |str j=>obtain⟨t',rfl⟩:=ry;exact PySem.EqMixed.ne_bool_str (Zr I q (by simp))
  |_=>exact absurd (show false=true from hs) Bool.false_ne_true
 |int i=>
  obtain⟨t,rfl⟩:=rx
  cases y with
  |non=>cases ry;exact PySem.EqNone.ne_int_none (Zr I q (by simp))
  |int j=>obtain⟨t',rfl⟩:=ry;exact ne_int (Zr I q (congrArg not Zjm))
  |str j=>obtain⟨t',rfl⟩:=ry;exact PySem.EqMixed.ne_int_str (Zr I q (by simp))
  |_=>exact absurd (show false=true from hs) Bool.false_ne_true
 |str i=>
  obtain⟨t,rfl⟩:=rx
  cases y with
  |non=>cases ry;exact PySem.EqNone.ne_str_none (Zr I q (by simp))
  |bl j=>cases ry;exact PySem.EqMixed.ne_str_bool (Zr I q (by simp))
  |int j=>obtain⟨t',rfl⟩:=ry;exact PySem.EqMixed.ne_str_int (Zr I q (by simp))
  |str j=>obtain⟨t',rfl⟩:=ry;exact ne_str (Zr I q (congrArg not Zjn))
  |_=>exact absurd (show false=true from hs) Bool.false_ne_true
 |byt i=>
  obtain⟨t,rfl⟩:=rx
  cases y with
  |byt j=>obtain⟨t',rfl⟩:=ry;exact PySem.W.ne_bytes (Zr I q (congrArg not Zjo))
  |_=>exact absurd (show false=true from hs) Bool.false_ne_true
 |_=>cases y<;> exact absurd (show false=true from hs) Bool.false_ne_true
theorem Zu0:OpR X (compareOp .Lt) (rI0 fun i j=>.bl (decide (i<j))):=opB0 fun _ _ _ _ _ _ _ q=>lt_int q
theorem Zu1:OpR X (compareOp .Gt) (rI0 fun i j=>.bl (decide (j<i))):=opB0 fun _ _ _ _ _ _ _ q=>gt_int q
theorem Zjp:OpR X (compareOp .Lt) (fun x y H Q=>∃i j,x= .str i∧y= .str j∧Q (.bl (decide (i.cps.toList<j.cps.toList))) H):=by
 intro pins s σ H x y v u Q I rx ry h
 obtain⟨i,j,rfl,rfl,q⟩:=h
 obtain⟨t,rfl⟩:=rx
 obtain⟨t',rfl⟩:=ry
 exact lt_str (Zr I q rfl)
theorem Znr:OpR X (compareOp .Is) (fun x y H Q=>y= .non∧Q (.bl (decide (x= .non))) H):=by
 intro pins s σ H x y v u Q I rx ry h
 obtain⟨rfl,q⟩:=h
 cases ry
 refine is_none_gen (Zr I q ?_)
 cases x<;> first
  | (cases rx;rfl)
  | (obtain⟨t,rfl⟩:=rx;rfl)
theorem Zos:OpR X (compareOp .IsNot) (fun x y H Q=>y= .non∧Q (.bl (!decide (x= .non))) H):=by
 intro pins s σ H x y v u Q I rx ry h
 obtain⟨rfl,q⟩:=h
 cases ry
 refine isnot_none_gen (Zr I q ?_)
 cases x<;> first
  | (cases rx;rfl)
  | (obtain⟨t,rfl⟩:=rx;rfl)
noncomputable def Zy7:HO→Bool
 | .lst _=>true
 | .ins _ _ _=>true
 |_=>false
theorem OpR.or{f:Value→Value→Sem Value}{r r':R2}(h:OpR X f r)(h':OpR X f r'):OpR X f (fun x y H Q=>r x y H Q∨r' x y H Q):=by
 intro pins s σ H x y v u Q I rx ry q
 rcases q with q|q
 ·exact h pins s σ H x y v u Q I rx ry q
 ·exact h' pins s σ H x y v u Q I rx ry q
theorem Zb4(b:Expr){op:CmpOp}(h:op≠.In:=by decide)(h2:op≠.NotIn:=by decide):behindInMarks op b=false:=by
 have e1:(op==CmpOp.In)=false:=by cases op<;> first|rfl|exact absurd rfl h
 have e2:(op==CmpOp.NotIn)=false:=by cases op<;> first|rfl|exact absurd rfl h2
 cases b<;> simp[behindInMarks,e1,e2]
theorem Zot{op:CmpOp}{r:R2}(ho:OpR X (compareOp op) r)(ha:PE X a ta)(hb:PE X b tb)(hm:behindInMarks op b=false):PE X (.Compare a [op] [b] pos) (tOp r ta tb):=by
 intro pins s σ H Q I h
 exact wpAny_Compare1 (binT ha hb I h fun v u s2 x y H2 I2 rx ry q=>ho pins s2 σ H2 x y v u Q I2 rx ry q) hm
noncomputable def Zrg(t:TE):TT:=fun σ H Q=>t σ H fun x H'=>∃k,x= .bl k∧Q k H'
theorem Zou{op:CmpOp}{r:R2}(ho:OpR X (compareOp op) r)(ha:PE X a ta)(hb:PE X b tb)(hm:behindInMarks op b=false):PT X (.Compare a [op] [b] pos) (Zrg (tOp r ta tb)):=by
 intro pins s σ H Q I h
 refine wpAny_isTrue_Compare1 (thn (ha pins s σ H _ I h) fun v s1 ⟨x,H1,I1,r1,q1⟩=>thn (hb pins s1 σ H1 _ I1 q1) fun u s2 ⟨y,H2,I2,r2,q2⟩=>
  thn (ho pins s2 σ H2 x y v u _ I2 r1 r2 q2) fun c s3 ⟨z,H3,I3,r3,k,e,q3⟩=>?_) hm
 subst e
 cases r3
 exact wpAny_truthy_bool ⟨H3,I3,q3⟩
noncomputable def Zxe(r r':R2)(ta tb tc:TE):TE:=fun σ H Q=>ta σ H fun x H1=>tb σ H1 fun y H2=>r x y H2 fun z H3=>∃k,z= .bl k∧
 (if k=true then tc σ H3 fun w' H4=>r' y w' H4 Q else Q (.bl false) H3)
noncomputable def TruV(K:PySem.W.Frag)(x:V)(H:Hp)(k:Bool):Prop:=
 match x with
 | .non=>k=false
 | .bl b=>k=b
 | .int i=>k=(i !=0)
 | .str y=>y.length≤sizeLine∧k=((y.length:Int) !=0)
 | .byt y=>y.size≤sizeLine∧k=((y.size:Int) !=0)
 | .ref p=>(∃xs,SqL K H p xs∧k= !xs.isEmpty)∨(∃xs,SqT K H p xs∧k= !xs.isEmpty)∨∃kvs,HK H p kvs∧k= !kvs.isEmpty
 |_=>False
theorem Ze8:(sizeLine:Nat)<2^63:=by rw[sizeLine_eq];decide
theorem Ziu:OpR X (binaryOp .Add) (fun x y H Q=>∃i j,x= .str i∧y= .str j∧i.length+j.length≤sizeLine∧Q (.str (i++j)) H):=by
 intro pins s σ H x y v u Q I rx ry h
 obtain⟨i,j,rfl,rfl,hz,q⟩:=h
 obtain⟨t,rfl⟩:=rx
 obtain⟨t',rfl⟩:=ry
 exact add_str (fun t' tk=>⟨.str (i++j),H,I.tok _,⟨_,rfl⟩,q⟩) hz
noncomputable def Zub(b:Expr):Prop:=∀o i,subscripted b false o i=operate [o,i] (getItem o i)
theorem Zdt{x:V}{us:List Value}(r:Vals [x] us):∃u,us=[u]∧RelV x u:=by
 cases r with
 |cons r1 r2=>cases r2;exact⟨_,rfl,r1⟩
theorem Zrh{x y:V}{us:List Value}(r:Vals [x,y] us):∃u w',us=[u,w']∧RelV x u∧RelV y w':=by
 cases r with
 |cons r1 r2=>
  cases r2 with
  |cons r3 r4=>cases r4;exact⟨_,_,rfl,r1,r3⟩
theorem Zjq:Zbv X (.type "int") (fun xs H Q=>(∃i,xs=[.int i]∧Q (.int i) H)∨∃k,xs=[.bl k]∧Q (.int (if k then 1 else 0)) H):=by
 intro pins s σ H xs us Q I r h
 rcases h with⟨i,rfl,q⟩|⟨k,rfl,q⟩
 ·obtain⟨u,rfl,t,rfl⟩:=Zdt r
  exact call_int_int ⟨.int i,H,I,⟨_,rfl⟩,q⟩
 ·obtain⟨u,rfl,r1⟩:=Zdt r
  cases r1
  exact call_int_bool ⟨.int (if k then 1 else 0),H,I.tok _,⟨_,rfl⟩,q⟩
noncomputable def LenV(K:PySem.W.Frag)(x:V)(H:Hp)(n:Nat):Prop:=
 match x with
 | .str y=>y.length≤sizeLine∧n=y.length
 | .byt y=>y.size≤sizeLine∧n=y.size
 | .ref p=>(∃xs,SqL K H p xs∧n=xs.length)∨∃xs,SqT K H p xs∧n=xs.length
 |_=>False
end
end L2
namespace L2
open PySem PySem.Spec PyProof.Rows
structure ObjM(h:Heap)(x dx C:Addr)(mA:Str→Option Value):Prop where
 obj:h.get? x=some (PySem.W.instObj C dx)
 ns:h.Ns1 dx mA
 ne:dx≠x
section
variable{prog:Program}{w:World}{A:Around}{E:Value→Shared→Prop}{s:Shared}{K:PySem.W.Frag}{x dx C f:Addr}{mA:Str→Option Value}{name:Str}{v:Value}
end
noncomputable def putF(f:Str)(v:V):List (Str×V)→List (Str×V)
  | []=>[(f,v)]
  | (g,x)::r=>if g=f then(g,v)::r else(g,x)::putF f v r
theorem RelO.some_of{v:V}{o:Option Value}(r:RelO (some v) o):∃u,o=some u∧RelV v u:=by
 cases o with
 |none=>exact(show False from r).elim
 |some u=>exact⟨u,rfl,r⟩
section
variable{P:Program}{w:World}{H H':Hp}{h h':Heap}{a C dx:Addr}{fs fs':List (Str×V)}
end
structure Cls(K:PySem.W.Frag)(C:Addr):Prop where
 pg:PySem.W.plainGet K C Str.empty=true
 hd:PySem.W.hasDictIn K C=true
 po:PySem.W.plainOver K C=true
 sa:PySem.W.findIn K (.ref C) "__setattr__"=some (some (.builtin "object.__setattr__"))
noncomputable def Zjr(K:PySem.W.Frag)(C:Addr)(f:Str):Prop:=PySem.W.findIn K (.ref C) f=some none
structure Con(K:PySem.W.Frag)(C:Addr)(f:Str)(v:V)(u:Value):Prop where
 at_:PySem.W.findIn K (.ref C) f=some (some u)
 rel:RelV v u
 get:PySem.W.specialIn K u "__get__"=some none
 cp:PySem.W.copiedNames.contains f=false
structure Meth(K:PySem.W.Frag)(C:Addr)(m:Str)(f:Addr):Prop where
 at_:PySem.W.findIn K (.ref C) m=some (some (.ref f))
 fn:PySem.W.isFn K (.ref f)=true
 kp:PySem.W.keepIn K (.ref f)=true
section
variable{X:Cx}{pins:List (Addr×Obj)}{σ:St}{H:Hp}{s:Shared}{a C dx:Addr}{fs:List (Str×V)}{f:Str}{v:V}{A:Around}{E:Value→Shared→Prop}
end
noncomputable def tFld(K:PySem.W.Frag)(ta:TE)(f:Str):TE:=fun σ H Q=>ta σ H fun x H1=>∃a C dx fs v,x= .ref a∧H1 a=some (.ins C dx fs)∧Cls K C∧Zjr K C f∧fs.lookup f=some v∧Q v H1
noncomputable def tCon(K:PySem.W.Frag)(ta:TE)(f:Str):TE:=fun σ H Q=>ta σ H fun x H1=>∃a C dx fs v u,x= .ref a∧H1 a=some (.ins C dx fs)∧Cls K C∧Con K C f v u∧fs.lookup f=none∧Q v H1
noncomputable def sFld(K:PySem.W.Frag)(ta tv:TE)(f:Str):TS:=fun D σ H=>tv σ H fun y H1=>ta σ H1 fun x H2=>∃a C dx fs,x= .ref a∧H2 a=some (.ins C dx fs)∧Cls K C∧Zjr K C f∧fs.length<1000∧
 D.nx σ (upd H2 a (.ins C dx (putF f y fs)))
noncomputable def InOp(X:Cx)(op:Operator)(rd:V→V→Hp→VK→Prop):Prop:=
 ∀(pins:List (Addr×Obj)) (s:Shared) (σ:St) (H:Hp) (x y:V) (u v:Value) (Q:VK),Inv X pins σ H s→RelV x u→RelV y v→rd x y H Q→wpAny (model X.prog X.w) X.A (inplaceOp op u v) (EP X pins σ Q) X.xe s
noncomputable def Zu2(K:PySem.W.Frag)(ta tv:TE)(rd:V→V→Hp→VK→Prop)(f:Str):TS:=fun D σ H=>ta σ H fun x H1=>∃a C dx fs v,x= .ref a∧H1 a=some (.ins C dx fs)∧Cls K C∧Zjr K C f∧fs.lookup f=some v∧
 tv σ H1 fun y H2=>rd v y H2 fun z H3=>∃dx' fs',H3 a=some (.ins C dx' fs')∧fs'.length<1000∧D.nx σ (upd H3 a (.ins C dx' (putF f z fs')))
section
variable{X:Cx}{o e value:Expr}{f:Str}{pos pos' tpos:Pos}{ta tv:TE}
noncomputable def rAdd:V→V→Hp→VK→Prop:=fun x y H Q=>∃i j,x= .int i∧y= .int j∧Q (.int (i+j)) H
noncomputable def rSub:V→V→Hp→VK→Prop:=fun x y H Q=>∃i j,x= .int i∧y= .int j∧Q (.int (i- j)) H
end
section
variable{X:Cx}{pins:List (Addr×Obj)}{σ:St}{H:Hp}{s:Shared}{A:Around}{E:Value→Shared→Prop}{Q:Value→Shared→Prop}{c:Value}{b:Bool}
inductive TyOf(K:PySem.W.Frag)(H:Hp):V→Value→Prop where
 |non:TyOf K H .non (.type "NoneType")
 |bl (x:Bool):TyOf K H (.bl x) (.type "bool")
 |int (i:Int):TyOf K H (.int i) (.type "int")
 |str (x:Str):TyOf K H (.str x) (.type "str")
 |flt (x:UInt64):TyOf K H (.flt x) (.type "float")
 |lst {a:Addr} {xs:List V} (e:H a=some (.lst xs)):TyOf K H (.ref a) (.type "list")
 |frz {a:Addr} {o:Obj} {xs:List V} (e:H a=some (.frz o (.lst xs))):TyOf K H (.ref a) (.type "list")
 |tup {a:Addr} {xs:List V} (e:H a=some (.tup xs)):TyOf K H (.ref a) (.type "tuple")
 |dK {a:Addr} {kvs:List (Key×V)} {ep:Nat} (e:H a=some (.dK kvs ep)):TyOf K H (.ref a) (.type "dict")
 |dT {a:Addr} {kvs:List (List Key×V)} {ep:Nat} {bs:List Addr} (e:H a=some (.dT kvs ep bs)):TyOf K H (.ref a) (.type "dict")
 |ins {a C dx:Addr} {fs:List (Str×V)} (e:H a=some (.ins C dx fs)) (cl:Cls K C) (ha:PySem.W.findIn K (.ref C) "__class__"=some (some (.builtin "object.__class__")))
   (hn:PySem.W.specialIn K (.builtin "object.__class__") "__get__"=some (some (.builtin "getset_descriptor.__get__"))) (htk:PySem.W.takesIn K (.builtin "object.__class__")=some true)
   (hm:PySem.W.mroIn K C (.type "object")=some true):TyOf K H (.ref a) (.ref C)
end
end L2
namespace L2
open PySem PySem.Spec PyProof.Rows
structure Room(k:Nat)(A:Around):Prop where
 hd:A.handled=none
 dp:A.depth+3*k+5<recursionLimit
 un:A.units+16*k+200<cLine
theorem Room.mono{j k:Nat}{A:Around}(r:Room k A)(h:j≤k):Room j A:=⟨r.hd,by have:=r.dp;omega,by have:=r.un;omega⟩
theorem Room.deeper{k:Nat}{A:Around}(r:Room (k+1) A)(env:Env):Room k (A.deeper env):=
 ⟨r.hd,by have:=r.dp;show A.depth+1+3*k+5<_;omega,by have:=r.un;show A.units+3+16*k+200<_;omega⟩
theorem Room.in1{k:Nat}{A:Around}(r:Room (k+1) A):Room k A.in1:=
 ⟨r.hd,by have:=r.dp;show A.depth+3*k+5<_;omega,by have:=r.un;show A.units+1+16*k+200<_;omega⟩
theorem Room.depth{k:Nat}{A:Around}(r:Room k A):A.depth<recursionLimit:=by have:=r.dp;omega
theorem Room.units{k:Nat}{A:Around}(r:Room k A):A.units+64<cLine:=by have:=r.un;omega
noncomputable def tNil:TA:=fun _ H Q=>Q [] H
noncomputable def Zme(ta:TE)(tr:TA):TA:=fun σ H Q=>ta σ H fun x H1=>tr σ H1 fun xs H2=>Q (x::xs) H2
section
variable{X:Cx}{e:Expr}{es:List Expr}{te:TE}{t:TA}{pos:Pos}
theorem Zhp:PA X [] tNil:=fun _ _ _ _ H Q I h=>Calls.spliced_nil ⟨[],H,I,.nil,h⟩
theorem Zci(ha:PE X e te)(hr:PA X es t)(hs:starEach (e::es) X.env=(false,eval e X.env)::starEach es X.env:=by rfl):PA X (e::es) (Zme te t):=by
 intro pos pins s σ H Q I h
 rw[hs]
 show wpAny _ _ (spliced ((false,eval e X.env)::backTo pos (starEach es X.env))) _ _ s
 refine Calls.spliced_cons (thn (ha pins s σ H _ I h) fun u s1 zq9=>?_)
 obtain⟨x,H1,I1,r1,q1⟩:=zq9
 exact thn (hr pos pins s1 σ H1 _ I1 q1) fun us s2 ⟨xs,H2,I2,r2,q2⟩=>⟨x::xs,H2,I2,.cons r1 r2,q2⟩
noncomputable def tTup(t:TA):TE:=fun σ H Q=>t σ H fun xs H1=>xs.length≤sizeLine∧∀p,H1 p=none→Q (.ref p) (upd H1 p (.tup xs))
noncomputable def tLst(t:TA):TE:=fun σ H Q=>t σ H fun xs H1=>xs.length≤sizeLine∧∀p,H1 p=none→Q (.ref p) (upd H1 p (.lst xs))
theorem Zri{x1} (h:PA X es t):PE X (.Tuple es x1 pos) (tTup t):=by
 intro pins s σ H Q I hq
 refine wpAny_Tuple_spliced (thn (h pos pins s σ H _ I hq) fun us s1 ⟨xs,H1,I1,r,z,q⟩=>⟨by rw[←r.length];exact z,?_⟩)
 have hf:H1 s1.heap.objs.size=none:=I1.hok.fresh (Nat.le_refl _)
 refine⟨.ref s1.heap.objs.size,upd H1 s1.heap.objs.size (.tup xs),I1.laid (t':=s1.toks) (fun b u e=>Heap.get?_push_of_some _ e) (Nat.le_refl _) ?_,rfl,q _ hf⟩
 exact⟨z,us,r,⟨_,Heap.get?_push_size _ rfl,rfl,_,rfl⟩⟩
theorem Zrj(h:PA X es t):PE X (.List es pos) (tLst t):=by
 intro pins s σ H Q I hq
 refine wpAny_List_spliced (thn (h pos pins s σ H _ I hq) fun us s1 ⟨xs,H1,I1,r,z,q⟩=>⟨by rw[←r.length];exact z,?_⟩)
 have hf:H1 s1.heap.objs.size=none:=I1.hok.fresh (Nat.le_refl _)
 refine⟨.ref s1.heap.objs.size,upd H1 s1.heap.objs.size (.lst xs),I1.laid (t':=s1.toks) (fun b u e=>Heap.get?_push_of_some _ e) (Nat.le_refl _) ?_,rfl,q _ hf⟩
 exact⟨z,us,0,r,Heap.get?_push_size _ rfl⟩
end
noncomputable abbrev Sp:=List V→Hp→VK→XK→Prop
noncomputable abbrev CXT:=List Env→Hp→Shared→XK→Value→Shared→Prop
structure Env0(P:Program)(w:World)(K:PySem.W.Frag)(mg:Str→Option Value)(base:Heap)(A:Around)(outer:List Env)(s:Shared)(H:Hp):Prop where
 frames:A.frames=some outer
 mod:Mod K mg base
 bs:∀b o,base.get? b=some o→s.heap.get? b=some o∧H b=none
 bsz:base.objs.size≤s.heap.objs.size
 funs:s.heap.FunFrames base outer
 frf:∀b∈frs outer,H b=none
 hok:HOk P w H s.heap
 bare:AllBare s.gens
noncomputable def CE(outer:List Env)(P:Program)(w:World)(H:Hp)(s:Shared)(Q:VK)(u:Value)(s':Shared):Prop:=
 ∃v H',s'.os=s.os∧AllBare s'.gens∧Un (frs outer) [] H H' s.heap s'.heap∧HOk P w H' s'.heap∧RelV v u∧Q v H'
noncomputable def CR(CX:CXT)(outer:List Env)(P:Program)(w:World)(H:Hp)(s:Shared)(Q:VK)(E:XK)(r:Result)(s':Shared):Prop:=
 match r with
 | .ok (.ret u)=>CE outer P w H s Q u s'
 | .ok _=>False
 | .error e=>CX outer H s E e s'
structure FnOk(P:Program)(w:World)(K:PySem.W.Frag)(mg:Str→Option Value)(base:Heap)(CX:CXT)(k:Nat)(f:Addr)(fd:FuncData)(ps:List Str)(sp:Sp):Prop where
 len:∀vs H Q E,sp vs H Q E→vs.length=ps.length
 run:∀(A:Around) (outer:List Env) (s:Shared) (H:Hp) (args:Args) (us:List Value) (vs:List V) (Q:VK) (E:XK),Room k A→Env0 P w K mg base A outer s H→BindsTo s fd args (ps.zip us)→Vals vs us→sp vs H Q E→
  codeAny (model P w) A (.call (.ref f) args) (CR CX outer P w H s Q E) s
section
variable{X:Cx}{pins:List (Addr×Obj)}{σ:St}{H:Hp}{s s':Shared}
theorem Inv.env0(I:Inv X pins σ H s):Env0 X.prog X.w X.K X.mg X.base X.A X.stack s H:=
 ⟨I.ok.frames,I.ok.mod,I.bs,Nat.le_trans I.ok.bsz I.sz,I.stack,I.stkFree,I.hok,I.bare⟩
theorem Inv.after{Q:VK}{u:Value}(I:Inv X pins σ H s)(h:CE X.stack X.prog X.w H s Q u s'):EP X pins σ Q u s':=by
 obtain⟨v,H',os,bare,un,hok,r,q⟩:=h
 obtain⟨hh,g,d,t,os'⟩:=s'
 obtain rfl:os'=s.os:=os
 exact⟨v,H',I.call (h':=hh) (g':=g) (d':=d) (t':=t) (ch:=[]) un hok bare (fun b z=>absurd z (by simp)),r,q⟩
end
noncomputable def Zov(sp:Sp)(dvs:List V)(E:XK)(t:TA):TE:=fun σ H Q=>t σ H fun vs H1=>sp (vs++dvs) H1 Q E
noncomputable def Zy8(C:Addr)(m:Str)(sp:Sp)(dvs:List V)(E:XK)(ta:TE)(t:TA):TE:=fun σ H Q=>ta σ H fun x H1=>∃a dx fs,x= .ref a∧H1 a=some (.ins C dx fs)∧fs.lookup m=none∧
 t σ H1 fun vs H2=>sp (x::(vs++dvs)) H2 Q E
noncomputable def Zy9(C:Addr)(sp:Sp)(dvs:List V)(E:XK)(t:TA):TE:=fun σ H Q=>t σ H fun vs H1=>∀x dx,H1 x=none→H1 dx=none→dx≠x→
 sp (.ref x::(vs++dvs)) (upd (upd H1 dx (.own x)) x (.ins C dx [])) (fun v H2=>v= .non∧Q (.ref x) H2) E
noncomputable def Zbe(K:PySem.W.Frag)(fd:FuncData)(ps:List Str)(ds:List Value):Prop:=
 ∀(s:Shared) (us:List Value),K.In s.heap→(us++ds).length=ps.length→BindsTo s fd ⟨us,[]⟩ (ps.zip (us++ds))
theorem Zbe.all{K:PySem.W.Frag}{fd:FuncData}{ps:List Str}(h:∀us:List Value,us.length=ps.length→bindArgs fd ⟨us,[]⟩=pure (ps.zip us)):Zbe K fd ps []:=fun s us _ hl=>by
 rw[List.append_nil]at hl⊢
 exact .of_eq (h us hl)
noncomputable def Zjs(CX:CXT)(X:Cx)(E:XK):Prop:=∀(pins:List (Addr×Obj)) (σ:St) (H:Hp) (s:Shared) (e:Value) (s':Shared),Inv X pins σ H s→CX X.stack H s E e s'→X.xe e s'
section
variable{X:Cx}{CX:CXT}{k:Nat}{f C:Addr}{fd:FuncData}{ps:List Str}{sp:Sp}{dvs:List V}{ds:List Value}{E:XK}{x m:Str}{p pos apos:Pos}{e o:Expr}{es:List Expr}{ta:TE}{t:TA}
theorem Zrk{pins:List (Addr×Obj)}{σ:St}{H:Hp}{s:Shared}{Q:VK}{us:List Value}{vs:List V}(F:FnOk X.prog X.w X.K X.mg X.base CX k f fd ps sp)(hr:Room k X.A)(hb:Zbe X.K fd ps ds)(hd:Vals dvs ds)(hx:Zjs CX X E)
  (I:Inv X pins σ H s) (r:Vals vs us) (h:sp (vs++dvs) H Q E):wpAny (model X.prog X.w) X.A (call (.ref f) us) (EP X pins σ Q) X.xe s:=by
 have r2:Vals (vs++dvs) (us++ds):=r.append hd
 have hl:(us++ds).length=ps.length:=by rw[←r2.length];exact F.len _ _ _ _ h
 refine wpAny_call (codeAny_mono (F.run X.A X.stack s H ⟨us,[]⟩ (us++ds) (vs++dvs) Q E hr I.env0 (hb s us I.kIn hl) r2 h) fun r s' hq=>?_)
 cases r with
 |error e=>exact hx pins σ H s e s' I hq
 |ok fl=>
  cases fl with
  |ret u=>exact I.after hq
  |next=>exact False.elim hq
  |brk=>exact False.elim hq
  |cont=>exact False.elim hq
theorem Zjt(F:FnOk X.prog X.w X.K X.mg X.base CX k f fd ps sp)(hr:Room k X.A)(hg:Gl X x)(hm:X.mg x=some (.ref f))(hk:PySem.W.keepIn X.K (.ref f)=true)(hb:Zbe X.K fd ps ds)(hd:Vals dvs ds)(hx:Zjs CX X E)
  (ha:PA X (e::es) t) (hdb:(x==("__debug__":Str))=false:=by decide) (he:starEach (e::es) X.env=(false,eval e X.env)::starEach es X.env:=by rfl) (hpl:(backTo pos (starEach es X.env)).any (·.1)=false:=by rfl):
  PE X (.Call (.Name x p) (e::es) [] pos) (Zov sp dvs E t):=by
 intro pins s σ H Q I h
 refine wpAny_Call_Name_kw (Zoj I hg hm ?_ hdb)
 refine PySem.W.callWith_K (h₀:=X.base) I.ok.mod.kin hk (thn (ha pos pins s σ H _ I h) fun us s1 ⟨vs,H1,I1,r,q⟩=>⟨I1.kIn,?_⟩) he hpl
 exact Zrk F hr hb hd hx I1 r q
structure Mk(K:PySem.W.Frag)(C f:Addr):Prop where
 makes:PySem.W.makesIn K C=true
 init:PySem.W.findIn K (.ref C) "__init__"=some (some (.ref f))
 fn:PySem.W.isFn K (.ref f)=true
 kp:PySem.W.keepIn K (.ref C)=true
end
noncomputable def PK(X:Cx)(kws:List Keyword)(t:TA):Prop:=
 ∀(pos:Pos) (pins:List (Addr×Obj)) (s:Shared) (σ:St) (H:Hp) (Q:List V→Hp→Prop),Inv X pins σ H s→t σ H Q→wpAny (model X.prog X.w) X.A (evalAll ((backToKw pos (keywordEach kws X.env)).map (·.2))) (AP X pins σ Q) X.xe s
section
variable{X:Cx}{CX:CXT}{k:Nat}{f C:Addr}{fd:FuncData}{ps ks:List Str}{sp:Sp}{E:XK}{x m:Str}{p pos apos kpos:Pos}{e o:Expr}{es:List Expr}{kws:List Keyword}{te ta:TE}{t tk:TA}{nm:Option Str}
structure KBinds(K:PySem.W.Frag)(fd:FuncData)(ps ks:List Str)(g:List Value→List Value→List Value)(gV:List V→List V→List V):Prop where
 to:∀(s:Shared) (us ws:List Value),K.In s.heap→(g us ws).length=ps.length→BindsTo s fd ⟨us,ks.zip ws⟩ (ps.zip (g us ws))
 rel:∀{vs:List V} {us:List Value} {zs:List V} {ws:List Value},Vals vs us→Vals zs ws→Vals (gV vs zs) (g us ws)
noncomputable def Zxf(sp:Sp)(gV:List V→List V→List V)(E:XK)(t tk:TA):TE:=fun σ H Q=>t σ H fun vs H1=>tk σ H1 fun zs H2=>sp (gV vs zs) H2 Q E
variable{g:List Value→List Value→List Value}{gV:List V→List V→List V}
end
structure FnScope(N P:List Str)(sc:Scope):Prop where
 kind:sc.kind= .function
 co:sc.isCoroutine=false
 gen:sc.isGenerator=false
 nd:N.Nodup
 pre:N.take P.length=P
 par:∀x∈P,sc.names.lookup x=some .local∨sc.names.lookup x=some .cell
 nofree:∀y∈sc.names,y.2≠.free
theorem Ze9{kindOf:Str→Option NameKind}{x:Str}:∀{binds:List (Str×Value)} {m:Str→Option Value},(∀v,(x,v)∉binds)→bindL kindOf binds m x=m x
  | [],_,_=>rfl
  | (n,v)::r,m,h=>by
    unfold bindL
    rw[Ze9 fun w hw=>h w (List.mem_cons_of_mem _ hw)]
    split
    · have:x≠n:=by rintro rfl;exact h v List.mem_cons_self
      simp[this]
    · rfl
theorem Zfa{kindOf:Str→Option NameKind}{x:Str}:∀{binds:List (Str×Value)} {m:Str→Option Value},(∀v,(x,v)∉binds)→bindC kindOf binds m x=m x
  | [],_,_=>rfl
  | (n,v)::r,m,h=>by
    unfold bindC
    rw[Zfa fun w hw=>h w (List.mem_cons_of_mem _ hw)]
    split
    · rfl
    · have:x≠n:=by rintro rfl;exact h v List.mem_cons_self
      simp[this]
theorem Zfb{kindOf:Str→Option NameKind}{x:Str}{v:Value}:∀{P:List Str} {vs:List Value} {i:Nat} {m:Str→Option Value},P.Nodup→P[i]? =some x→vs[i]? =some v→kindOf x=some .local→
  bindL kindOf (P.zip vs) m x=some v
 | [],_,_,_,_,h,_,_=>by simp at h
 |_::_,[],_,_,_,_,h,_=>by simp at h
 |p::P,w::vs,0,m,nd,h1,h2,hk=>by
  simp at h1 h2;subst h1;subst h2
  show bindL kindOf ((p,w)::P.zip vs) m p=_
  unfold bindL
  rw[Ze9 fun v hv=>(List.nodup_cons.mp nd).1 (List.of_mem_zip hv).1,if_pos hk]
  simp
 |p::P,w::vs,i+1,m,nd,h1,h2,hk=>by
  show bindL kindOf ((p,w)::P.zip vs) m x=_
  unfold bindL
  exact Zfb (i:=i) (List.nodup_cons.mp nd).2 (by simpa using h1) (by simpa using h2) hk
theorem Zfc{kindOf:Str→Option NameKind}{x:Str}{v:Value}:∀{P:List Str} {vs:List Value} {i:Nat} {m:Str→Option Value},P.Nodup→P[i]? =some x→vs[i]? =some v→kindOf x≠some .local→
  bindC kindOf (P.zip vs) m x=some v
 | [],_,_,_,_,h,_,_=>by simp at h
 |_::_,[],_,_,_,_,h,_=>by simp at h
 |p::P,w::vs,0,m,nd,h1,h2,hk=>by
  simp at h1 h2;subst h1;subst h2
  show bindC kindOf ((p,w)::P.zip vs) m p=_
  unfold bindC
  rw[Zfa fun v hv=>(List.nodup_cons.mp nd).1 (List.of_mem_zip hv).1,if_neg hk]
  simp
 |p::P,w::vs,i+1,m,nd,h1,h2,hk=>by
  show bindC kindOf ((p,w)::P.zip vs) m x=_
  unfold bindC
  exact Zfc (i:=i) (List.nodup_cons.mp nd).2 (by simpa using h1) (by simpa using h2) hk
noncomputable def Zcj(N:List Str)(vs:List V):St:=vs.map some++List.replicate (N.length- vs.length) none
noncomputable def cxOf(CX:CXT)(P:Program)(w:World)(K:PySem.W.Frag)(mg:Str→Option Value)(base:Heap)(N:List Str)(qual:Str)(scope:Scope)(f:Addr)(cd:Value)(A:Around)(outer:List Env)(s:Shared)(H:Hp)(E:XK):Cx where
 prog:=P
 w:=w
 K:=K
 mg:=mg
 base:=base
 A:=A.deeper (envOfC qual scope s.heap.objs.size f cd)
 N:=N
 s₀:=s
 H₀:=H
 env:=envOfC qual scope s.heap.objs.size f cd
 outer:=outer
 stack:=envOfC qual scope s.heap.objs.size f cd::outer
 ex:=[]
 calm:=true
 fn:=fun _=>true
 pn:=[]
 xe:=fun e s'=>wpAny (model P w) (A.deeper (envOfC qual scope s.heap.objs.size f cd)) (leaving (envOfC qual scope s.heap.objs.size f cd) e) (fun _ s''=>CX outer H s E e s'') (fun e' s''=>CX outer H s E e' s'') s'
theorem Zhq{sc:Scope}{n:Nat}{x:Str}(h:sc.names.lookup x=some .cell):∃c,(cellsFrom n sc.names []).lookup x=some c:=by
 have q:=PySem.W.cellsFrom_some sc.names n [] (.inl h)
 exact Option.isSome_iff_exists.mp q
theorem Zju{CX:CXT}{P:Program}{w:World}{K:PySem.W.Frag}{mg:Str→Option Value}{base:Heap}{N ps:List Str}{qual:Str}{scope:Scope}{f:Addr}{cd:Value}{A:Around}{outer:List Env}{s s1:Shared}{H:Hp}{E:XK}{us:List Value}{vs:List V}
  (S:FnScope N ps scope) (hd:A.handled=none) (e0:Env0 P w K mg base A outer s H) (hl:vs.length=ps.length) (r:Vals vs us)
  (x:InCallC s s.heap.objs.size (bindL (envOfC qual scope s.heap.objs.size f cd).kindOf (ps.zip us) fun _=>none) (cellsFrom (s.heap.objs.size+1) scope.names []) (bindC (envOfC qual scope s.heap.objs.size f cd).kindOf (ps.zip us) fun _=>none) s1):
  Inv (cxOf CX P w K mg base N qual scope f cd A outer s H E) [] (Zcj N vs) H s1:=by
 have hpl:ps.length≤N.length:=by have:=congrArg List.length S.pre;rw[List.length_take]at this;omega
 obtain⟨h1,tk,rfl,hk⟩:=x.done
 have noA:∀b:Addr,b∉(cxOf CX P w K mg base N qual scope f cd A outer s H E).ex:=fun b z=>absurd (show b∈([]:List Addr)from z) (by simp)
 refine⟨⟨e0.mod,S.kind,rfl,rfl,Nat.le_refl _,fun y z c h1 h2=>?_,fun y hy=>?_,fun y c _ h=>?_,fun _=>hd,Around.frames_deeper e0.frames,.inr ⟨rfl,rfl⟩,fun b z=>absurd z (noA b),e0.bs,e0.bsz,fun b _ _=>noA b,fun b z=>absurd z (noA b),e0.funs,e0.frf⟩,
  rfl,e0.bare,Un.kept hk,⟨_,x.toInCall.ns,fun i y v h1 h2 h3=>?_⟩,fun y c h=>⟨_,x.cell y c h⟩,e0.hok.fresh (Nat.le_refl _),fun y c h=>?_,fun p hp=>absurd (show p∈([]:List (Addr×Obj))from hp) (by simp),e0.hok.kept hk,?_⟩
 ·exact name_of_addr x.apart (PySem.mem_of_lookup h1) (PySem.mem_of_lookup h2)
 ·have hy:scope.names.lookup y=some .cell∨scope.names.lookup y=some .free:=hy
  rcases hy with hy|hy
  ·exact Zhq hy
  ·exact absurd rfl (S.nofree _ (PySem.mem_of_lookup hy))
 ·exact Nat.le_of_lt (x.above y c (PySem.mem_of_lookup h))
 ·have hi:i<vs.length:=by
   unfold Zcj at h2
   by_cases hi:i<vs.length
   ·exact hi
   ·rw[List.getElem?_append_right (by simpa using hi)]at h2
    rw[List.getElem?_replicate]at h2
    split at h2<;> cases h2
  have ha:vs[i]? =some v:=by
   unfold Zcj at h2
   rw[List.getElem?_append_left (by simpa using hi),List.getElem?_map]at h2
   cases e:vs[i]? with
   |none=>rw[e]at h2;cases h2
   |some a=>rw[e]at h2;cases h2;rfl
  obtain⟨u,hu,rv⟩:=r.get ha
  have hp:ps[i]? =some y:=by
   rw[←S.pre,List.getElem?_take_of_lt (by omega)];exact h1
  have ndP:ps.Nodup:=by rw[←S.pre];exact S.nd.sublist (List.take_sublist _ _)
  refine⟨u,rv,?_⟩
  rcases S.par y (List.mem_of_getElem? hp)with k|k
  ·exact .inl ⟨k,Zfb ndP hp hu k⟩
  ·obtain⟨c,e⟩:=Zhq (n:=s.heap.objs.size+1) k
   refine .inr ⟨.inl k,c,e,?_⟩
   have q:=x.cell y c e
   rw[Zfc ndP hp hu (by show scope.names.lookup y≠_;rw[k];decide)]at q
   exact q
 ·exact e0.hok.fresh (Nat.le_of_lt (x.above y c (PySem.mem_of_lookup h)))
 ·unfold Zcj
  show _=N.length
  rw[List.length_append,List.length_map,List.length_replicate]
  omega
theorem Zrl{CX:CXT}{P:Program}{w:World}{K:PySem.W.Frag}{mg:Str→Option Value}{base:Heap}{k:Nat}{f:Addr}{name qual:Str}{params:Arguments}{body:List Stmt}{scope:Scope}{dV kV doc pm cdv ct oc:Value}{an od:Option Addr}
  {osl:Array (Option Value)} {N ps:List Str} {sp:Sp} (lk:K.lookup f=some ⟨oc,od,.func (PySem.W.fnOf name qual params body scope dV kV doc pm an cdv ct),osl⟩) (hcd:PySem.W.codeIn K cdv qual=true) (S:FnScope N ps scope)
  (len:∀vs H Q E,sp vs H Q E→vs.length=ps.length)
  (hbody:∀(A:Around) (outer:List Env) (s:Shared) (H:Hp) (vs:List V) (Q:VK) (E:XK),Room k (A.deeper (envOfC qual scope s.heap.objs.size f cdv))→sp vs H Q E→
   ∃t,PSs (cxOf CX P w K mg base N qual scope f cdv A outer s H E) body t∧t {nx:=fun _ H'=>Q .non H',rt:=Q} (Zcj N vs) H):
  FnOk P w K mg base CX (k+1) f (PySem.W.fnOf name qual params body scope dV kV doc pm an cdv ct) ps sp:=by
 refine⟨len,fun A outer s H args us vs Q E hr e0 hb r hsp=>?_⟩
 have hl:=len _ _ _ _ hsp
 have KX:K.In s.heap:=e0.mod.kin.keeps fun b o e=>(e0.bs b o e).1
 have lim:s.heap.NoLimit:=e0.mod.nolimit.keeps fun b o e=>(e0.bs b o e).1
 have hkind:∀y∈ps.zip us,scope.names.lookup y.1=some .local∨(scope.names.lookup y.1=some .cell∧((cellsFrom (s.heap.objs.size+1) scope.names []).lookup y.1).isSome=true):=fun⟨n,v⟩ hy=>by
  rcases S.par n (List.of_mem_zip hy).1 with q|q
  ·exact .inl q
  ·exact .inr ⟨q,PySem.W.cellsFrom_some _ _ _ (.inl q)⟩
 refine codeAny_call_function hr.depth (KX _ _ lk) rfl S.co S.gen rfl (PySem.W.codeRec_of KX hcd) (hb _ _ _ _ ?_)
 refine wpAny_newFunctionEnv_cells S.kind hkind fun env he s1 x=>?_
 subst he
 refine⟨lim.keeps x.toInCall.keep,codeAny_func ?_⟩
 obtain⟨t,ht,hq⟩:=hbody A outer s H vs Q E (hr.deeper _) hsp
 have I:Inv (cxOf CX P w K mg base N qual scope f cdv A outer s H E) [] (Zcj N vs) H s1:=Zju S hr.hd e0 hl r x
 refine wpAny_mono (ht [] s1 (Zcj N vs) H _ I hq) (fun fl s' hs=>?_) fun e s' hs=>hs
 have fin:∀{σ':St} {H':Hp} {v:V} {u:Value},Inv (cxOf CX P w K mg base N qual scope f cdv A outer s H E) [] σ' H' s'→RelV v u→Q v H'→CE outer P w H s Q u s':=
  fun{σ' H' v u} J rv q=>⟨v,H',J.os,J.bare,J.base,J.hok,rv,q⟩
 cases fl with
 |ret u=>
  obtain⟨v,σ',H',J,rv,q⟩:=hs
  exact fin J rv q
 |next=>
  obtain⟨σ',H',J,q⟩:=hs
  exact fin (v:=V.non) (u:=Value.none) J rfl q
 |brk=>
  obtain⟨_,_,_,q⟩:=hs
  exact False.elim q
 |cont=>
  obtain⟨_,_,_,q⟩:=hs
  exact False.elim q
end L2
namespace L2
open PySem PySem.Spec PyProof.Rows
section
variable{X:Cx}{x:Str}{p pos:Pos}{e:Expr}{es:List Expr}{t:TA}{id T:String}{r:List V→Hp→VK→Prop}
noncomputable def tCB(r:List V→Hp→VK→Prop)(t:TA):TE:=fun σ H Q=>t σ H fun vs H1=>r vs H1 Q
theorem Zhr(hc:Zbv X (.builtin id) r)(hg:Gl X x)(hm:X.mg x=none)(hv:bootBuiltins x=some (.builtin id))(ha:PA X (e::es) t)(hn:x≠"__name__":=by decide)(hdb:(x==("__debug__":Str))=false:=by decide)
  (he:starEach (e::es) X.env=(false,eval e X.env)::starEach es X.env:=by rfl) (hpl:(backTo pos (starEach es X.env)).any (·.1)=false:=by rfl):PE X (.Call (.Name x p) (e::es) [] pos) (tCB r t):=by
 intro pins s σ H Q I h
 refine wpAny_Call_Name_kw (Zc5 I hg hm hv ?_ hn hdb)
 exact PyProof.Rows.callWith_builtin1 (thn (ha pos pins s σ H _ I h) fun us s1 ⟨vs,H1,I1,r1,q1⟩=>hc pins s1 σ H1 vs us Q I1 r1 q1) he hpl
theorem Zjv(hc:Zbv X (.type T) r)(hg:Gl X x)(hm:X.mg x=none)(hv:bootBuiltins x=some (.type T))(ha:PA X (e::es) t)(hn:x≠"__name__":=by decide)(hdb:(x==("__debug__":Str))=false:=by decide)
  (he:starEach (e::es) X.env=(false,eval e X.env)::starEach es X.env:=by rfl) (hpl:(backTo pos (starEach es X.env)).any (·.1)=false:=by rfl):PE X (.Call (.Name x p) (e::es) [] pos) (tCB r t):=by
 intro pins s σ H Q I h
 refine wpAny_Call_Name_kw (Zc5 I hg hm hv ?_ hn hdb)
 exact PyProof.Rows.callWith_type1 (thn (ha pos pins s σ H _ I h) fun us s1 ⟨vs,H1,I1,r1,q1⟩=>hc pins s1 σ H1 vs us Q I1 r1 q1) he hpl
end
end L2
namespace HT
open PySem PyProof.Rows
noncomputable def lexLt:List Int→List Int→Bool
 | [],[]=>false
 | [],_::_=>true
 |_::_,[]=>false
 |x::xs,y::ys=>if x=y then lexLt xs ys else decide (x<y)
theorem Zql(x y:Int)(xs ys:List Int):lexLt (x::xs) (y::ys)=if x=y then lexLt xs ys else decide (x<y):=rfl
theorem Zmf:lexLt [] []=false:=rfl
theorem Zl5(y:Int)(ys:List Int):lexLt [] (y::ys)=true:=rfl
theorem Zl6(x:Int)(xs:List Int):lexLt (x::xs) []=false:=rfl
section
open PySem.SeqAt
open PySem.AutoSeq1 (wpAny_loadPart')
open PySem.MeetsSeq PySem.MeetsSeq2 PySem.MeetsSeq3
end
section
variable{prog:Program}{w:World}{A:Around}{E:Value→Shared→Prop}{s:Shared}
noncomputable def sIx(n d:Nat):Option Int→Nat
 |none=>d
 |some v=>if v<0 then(v+(n:Int)).toNat else min v.toNat n
theorem Zuc(n d:Nat):sIx n d none=d:=rfl
theorem sIx_nat(n d k:Nat):sIx n d (some (k:Int))=min k n:=by
 show(if(k:Int)<0 then((k:Int)+(n:Int)).toNat else min (k:Int).toNat n)=min k n
 rw[if_neg (by omega),Int.toNat_natCast]
end
end HT
namespace L2
open PySem PySem.Spec PyProof.Rows
noncomputable abbrev TO:=St→Hp→(Option Int→Hp→Prop)→Prop
noncomputable def PO(X:Cx)(e:Option Expr)(t:TO):Prop:=
 ∀(pins:List (Addr×Obj)) (s:Shared) (σ:St) (H:Hp) (Q:Option Int→Hp→Prop),Inv X pins σ H s→t σ H Q→
  wpAny (model X.prog X.w) X.A (evalPart e X.env) (fun u s'=>∃o H',Inv X pins σ H' s'∧IsPart u o∧Q o H') X.xe s
noncomputable def Zjw:TO:=fun _ H Q=>Q none H
noncomputable def Zrm(t:TE):TO:=fun σ H Q=>t σ H fun x H1=>∃i,x= .int i∧Q (some i) H1
section
variable{X:Cx}{e:Expr}{te:TE}{lo hi:Option Expr}{tl th:TO}{pos p2:Pos}
theorem Zow:PO X none Zjw:=by
 intro pins s σ H Q I h
 rw[evalPart_none]
 exact wpAny_pure ⟨none,H,I,.none,h⟩
theorem Zox(h:PE X e te):PO X (some e) (Zrm te):=by
 intro pins s σ H Q I hw
 rw[evalPart_some]
 refine thn (h pins s σ H _ I hw) fun u s1 zq9=>?_
 obtain⟨x,H1,I1,r1,q1⟩:=zq9
 obtain⟨i,rfl,q⟩:=q1
 obtain⟨t,rfl⟩:=r1
 exact⟨some i,H1,I1,.int i t,q⟩
noncomputable def SlR(X:Cx)(r:V→Option Int→Option Int→Hp→VK→Prop):Prop:=
 ∀(pins:List (Addr×Obj)) (s:Shared) (σ:St) (H:Hp) (x:V) (v vl vu:Value) (lo hi:Option Int) (sl:Addr) (Q:VK),Inv X pins σ H s→RelV x v→s.heap.IsSliceOf sl vl vu .none→IsPart vl lo→IsPart vu hi→r x lo hi H Q→
  ∃T id,typeLookup (.type T) "__getitem__"=pure (some (.builtin id))∧s.TypeIs v T∧wpAny (model X.prog X.w) X.A (getItem v (.ref sl)) (EP X pins σ Q) X.xe s
theorem SlR.or{r r':V→Option Int→Option Int→Hp→VK→Prop}(h:SlR X r)(h':SlR X r'):SlR X (fun x lo hi H Q=>r x lo hi H Q∨r' x lo hi H Q):=by
 intro pins s σ H x v vl vu lo hi sl Q I rx hs pl pu q
 rcases q with q|q
 ·exact h pins s σ H x v vl vu lo hi sl Q I rx hs pl pu q
 ·exact h' pins s σ H x v vl vu lo hi sl Q I rx hs pl pu q
noncomputable def tSl(r:V→Option Int→Option Int→Hp→VK→Prop)(te:TE)(tl th:TO):TE:=fun σ H Q=>te σ H fun x H1=>tl σ H1 fun l H2=>th σ H2 fun u H3=>r x l u H3 Q
theorem Zmg{r:V→Option Int→Option Int→Hp→VK→Prop}(hr:SlR X r)(he:PE X e te)(hl:PO X lo tl)(hu:PO X hi th):PE X (.Subscript e (.Slice lo hi none p2) pos) (tSl r te tl th):=by
 intro pins s σ H Q I h
 refine Subscript_ (thn (he pins s σ H _ I h) fun v s1 zq9=>?_)
 obtain⟨x,H1,I1,r1,q1⟩:=zq9
 refine wpAny_Slice (thn (hl pins s1 σ H1 _ I1 q1) fun vl s2 ⟨l,H2,I2,pl,q2⟩=>thn (hu pins s2 σ H2 _ I2 q2) fun vu s3 zq9=>?_)
 obtain⟨u,H3,I3,pu,q3⟩:=zq9
 rw[evalPart_none]
 refine wpAny_pure ?_
 have I4:Inv X pins σ H3 {s3 with heap:=s3.heap.push {cls:=.type "slice",data:=.fields #[vl,vu,.none]}}:=I3.kept (t':=s3.toks) fun b ob q=>Heap.get?_push_of_some _ q
 obtain⟨T,id,hT,ht,hg⟩:=hr pins {s3 with heap:=s3.heap.push {cls:=.type "slice",data:=.fields #[vl,vu,.none]}} σ H3 x v vl vu l u s3.heap.objs.size Q I4 r1 (Heap.IsSliceOf.new ..) pl pu q3
 show wpAny (model X.prog X.w) X.A (subscriptTail e (.Slice lo hi none p2) v (.ref s3.heap.objs.size)) (EP X pins σ Q) X.xe {s3 with heap:=s3.heap.push {cls:=.type "slice",data:=.fields #[vl,vu,.none]}}
 exact tail_any (ops:=[.ref s3.heap.objs.size,v]) ht hT hg (by with_unfolding_all rfl)
noncomputable def cutV(xs:List V)(lo hi:Option Int):List V:=(xs.drop (HT.sIx xs.length 0 lo)).take (HT.sIx xs.length xs.length hi- HT.sIx xs.length 0 lo)
theorem Zgs(xs:List V)(lo hi:Option Int):(cutV xs lo hi).length≤xs.length:=by
 unfold cutV
 rw[List.length_take,List.length_drop]
 omega
noncomputable def rSlT(K:PySem.W.Frag):V→Option Int→Option Int→Hp→VK→Prop:=fun x lo hi H Q=>∃a xs,x= .ref a∧SqT K H a xs∧
 ¬(HT.sIx xs.length 0 lo=0∧HT.sIx xs.length xs.length hi=xs.length)∧∀p,H p=none→Q (.ref p) (upd H p (.tup (cutV xs lo hi)))
noncomputable def rLtT(K:PySem.W.Frag):R2:=fun x y H Q=>∃a b ns ms,x= .ref a∧y= .ref b∧SqT K H a (ns.map V.int)∧SqT K H b (ms.map V.int)∧Q (.bl (HT.lexLt ns ms)) H
noncomputable def Zza(K:PySem.W.Frag):R2:=fun x y H Q=>∃a b xs ys,x= .ref a∧y= .ref b∧SqT K H a xs∧SqT K H b ys∧xs≠[]∧xs.length+ys.length≤sizeLine∧
 (ys=[]→Q (.ref a) H)∧(ys≠[]→∀p,H p=none→Q (.ref p) (upd H p (.tup (xs++ys))))
end
end L2
namespace L2
open PySem PySem.Spec PyProof.Rows
noncomputable def ixN(n:Nat)(i:Int):Option Nat:=if 0≤i then(if i<n then some i.toNat else none)else if-(n:Int)≤i then some (i+n).toNat else none
noncomputable def atI{α:Type}(xs:List α)(i:Int):Option α:=(ixN xs.length i).bind fun j=>xs[j]?
theorem Zoy{n:Nat}{i:Int}{j:Nat}(h:ixN n i=some j):seqIndex? i n=some j∧j<n∧-(n:Int)≤i∧i<n:=by
 unfold ixN at h
 by_cases h0:0≤i
 ·rw[if_pos h0]at h
  by_cases h1:i<n
  ·rw[if_pos h1]at h
   have e:i.toNat=j:=Option.some.inj h
   exact⟨by rw[seqIndex_of h0 h1,e],by omega,by omega,h1⟩
  ·rw[if_neg h1]at h;cases h
 ·rw[if_neg h0]at h
  by_cases h1:-(n:Int)≤i
  ·rw[if_pos h1]at h
   have e:(i+n).toNat=j:=Option.some.inj h
   exact⟨by rw[seqIndex_neg (by omega) h1,e],by omega,h1,by omega⟩
  ·rw[if_neg h1]at h;cases h
theorem Zgt{α:Type}{xs:List α}{i:Int}{v:α}(h:atI xs i=some v):∃j,seqIndex? i xs.length=some j∧xs[j]? =some v∧j<xs.length∧-(xs.length:Int)≤i∧i<xs.length:=by
 unfold atI at h
 cases e:ixN xs.length i with
 |none=>rw[e]at h;cases h
 |some j=>
  rw[e]at h
  obtain⟨h1,h2,h3,h4⟩:=Zoy e
  exact⟨j,h1,h,h2,h3,h4⟩
noncomputable def Zjx(b:Expr):Prop:=∀o i,subscripted b false o i=operate [o,i] (getItem o i)
noncomputable def IxR(X:Cx)(r:R2):Prop:=
 ∀(value slice:Expr) (pins:List (Addr×Obj)) (s:Shared) (σ:St) (H:Hp) (x y:V) (v u:Value) (Q:VK),Inv X pins σ H s→RelV x v→RelV y u→r x y H Q→
  subscripted slice false v u=operate [v,u] (getItem v u)→wpAny (model X.prog X.w) X.A (subscriptTail value slice v u) (EP X pins σ Q) X.xe s
noncomputable def MtR(X:Cx)(id:String)(r:V→List V→Hp→VK→Prop):Prop:=
 ∀(pins:List (Addr×Obj)) (s:Shared) (σ:St) (H:Hp) (x:V) (xs:List V) (v:Value) (us:List Value) (Q:VK),Inv X pins σ H s→RelV x v→Vals xs us→r x xs H Q→
  wpAny (model X.prog X.w) X.A (call (.builtin id) (v::us)) (EP X pins σ Q) X.xe s
section
variable{X:Cx}{a b:Expr}{ta tb:TE}{pos:Pos}
theorem IxR.or{r r':R2}(h:IxR X r)(h':IxR X r'):IxR X (fun x y H Q=>r x y H Q∨r' x y H Q):=by
 intro value slice pins s σ H x y v u Q I rx ry q hs
 rcases q with q|q
 ·exact h value slice pins s σ H x y v u Q I rx ry q hs
 ·exact h' value slice pins s σ H x y v u Q I rx ry q hs
theorem Zu3{r:R2}(hr:IxR X r)(ha:PE X a ta)(hb:PE X b tb)(hs:Zjx b):PE X (.Subscript a b pos) (tOp r ta tb):=by
 intro pins s σ H Q I h
 exact Subscript_ (binT ha hb I h fun v u s2 x y H2 I2 rx ry q=>hr a b pins s2 σ H2 x y v u Q I2 rx ry q (hs _ _))
noncomputable def rIxL(K:PySem.W.Frag):R2:=fun x y H Q=>∃p xs i v,x= .ref p∧y= .int i∧SqL K H p xs∧atI xs i=some v∧Q v H
noncomputable def rIxT(K:PySem.W.Frag):R2:=fun x y H Q=>∃p xs i v,x= .ref p∧y= .int i∧SqT K H p xs∧atI xs i=some v∧Q v H
noncomputable def rIxS:R2:=fun x y H Q=>∃z i c,x= .str z∧y= .int i∧z.length≤sizeLine∧atI z.cps.toList i=some c∧Q (.str ⟨#[c]⟩) H
theorem Zoz:IxR X (rIxL X.K):=by
 intro value slice pins s σ H x y v u Q I rx ry h hs
 obtain⟨p,xs,i,z,rfl,rfl,hq,he,q⟩:=h
 cases rx
 obtain⟨t,rfl⟩:=ry
 obtain⟨its,r,pl,hz⟩:=I.list hq
 obtain⟨j,h1,h2,h3,h4,h5⟩:=Zgt he
 obtain⟨w,ew,rw'⟩:=r.get h2
 have hl:=r.length
 have hn:=Ze8
 have fin:EP X pins σ Q w s:=⟨z,H,I,rw',q⟩
 by_cases h0:0≤i
 ·have hj:i.toNat=j:=by
   rw[seqIndex_of h0 h5]at h1
   exact Option.some.inj h1
  exact item_listR pl.isList h0 (by omega) (by rw[hj];simpa using ew) fin hs
 ·have hj:(i+(its.toArray.size:Int)).toNat=j:=by
   rw[seqIndex_neg (by omega) h4]at h1
   rw[List.size_toArray,←hl]
   exact Option.some.inj h1
  exact subscriptTail_builtinR (x:=w) pl.isList.typeIs slot_list_getitem.lookup
   (wpAny_getItem_list_neg (Q:=fun r s'=>r=w∧EP X pins σ Q r s') pl.isList (by omega) (by rw[List.size_toArray]<;> omega) (by omega) (by rw[hj];simpa using ew) ⟨rfl,fin⟩) hs
theorem Zrn:IxR X (rIxT X.K):=by
 intro value slice pins s σ H x y v u Q I rx ry h hs
 obtain⟨p,xs,i,z,rfl,rfl,hq,he,q⟩:=h
 cases rx
 obtain⟨t,rfl⟩:=ry
 obtain⟨its,r,pl,hz⟩:=I.tuple hq
 obtain⟨j,h1,h2,h3,h4,h5⟩:=Zgt he
 obtain⟨w,ew,rw'⟩:=r.get h2
 have hl:=r.length
 have hn:=Ze8
 have fin:EP X pins σ Q w s:=⟨z,H,I,rw',q⟩
 exact subscriptTail_builtinR (x:=w) pl.typeIs slot_tuple_getitem.lookup
  (getItem_tuple (j:=j) (Q:=fun r s'=>r=w∧EP X pins σ Q r s') pl (by omega) (by omega) (by rw[List.size_toArray,←hl];exact h1) (by simpa using ew) ⟨rfl,fin⟩) hs
theorem Zro:IxR X rIxS:=by
 intro value slice pins s σ H x y v u Q I rx ry h hs
 obtain⟨z,i,c,rfl,rfl,hz,he,q⟩:=h
 obtain⟨t,rfl⟩:=rx
 obtain⟨t',rfl⟩:=ry
 obtain⟨j,h1,h2,h3,h4,h5⟩:=Zgt he
 have hl:z.cps.toList.length=z.length:=by simp[Str.length]
 rw[hl]at h1 h4 h5
 have hn:=Ze8
 exact tail_any (typeIs_str s z t) slot_str_getitem.lookup (getItem_str (c:=c) (by
  have e1:decide (i< -(2^63:Int))=false:=decide_eq_false (by omega)
  have e2:decide (i≥2^63)=false:=decide_eq_false (by omega)
  rw[e1,e2,Bool.or_false]) (by rw[h1];simpa using h2) ⟨.str ⟨#[c]⟩,H,I.tok _,⟨_,rfl⟩,q⟩) hs
noncomputable def rIx(K:PySem.W.Frag):R2:=fun x y H Q=>rIxL K x y H Q∨rIxT K x y H Q∨rIxS x y H Q
theorem Zrp:IxR X (rIx X.K):=Zoz.or (Zrn.or Zro)
noncomputable def Zzb:V→V→V→Hp→(Hp→Prop)→Prop:=fun o i v H Q=>∃p xs k j,o= .ref p∧i= .int k∧H p=some (.lst xs)∧ixN xs.length k=some j∧Q (upd H p (.lst (xs.set j v)))
theorem Zfd(lo hi:Option Int)(n:Nat):(sliceBounds lo hi none n).1=((HT.sIx n 0 lo:Nat):Int)∧(sliceBounds lo hi none n).2.1=((HT.sIx n n hi:Nat):Int)∧(sliceBounds lo hi none n).2.2=1:=by
 refine⟨?_,?_,rfl⟩
 ·cases lo with
  |none=>simp[sliceBounds,HT.sIx]
  |some i=>
   simp only[sliceBounds,HT.sIx,Option.getD_none,show(1:Int) > 0 by decide,if_true]
   by_cases h:i<0
   ·simp only[h,if_true]<;> omega
   ·simp only[h,if_false]<;> omega
 ·cases hi with
  |none=>simp[sliceBounds,HT.sIx]
  |some i=>
   simp only[sliceBounds,HT.sIx,Option.getD_none,show(1:Int) > 0 by decide,if_true]
   by_cases h:i<0
   ·simp only[h,if_true]<;> omega
   ·simp only[h,if_false]<;> omega
theorem Zee(its:List Value)(lo hi:Option Int):slicePick its.toArray lo hi none=((its.drop (HT.sIx its.length 0 lo)).take (HT.sIx its.length its.length hi- HT.sIx its.length 0 lo)).toArray:=by
 obtain⟨h1,h2,h3⟩:=Zfd lo hi its.toArray.size
 unfold slicePick
 rw[h1,h2,h3]
 simp only[sliceRange_one,pick_run,List.size_toArray]<;> rfl
noncomputable def rSlL(K:PySem.W.Frag):V→Option Int→Option Int→Hp→VK→Prop:=fun x lo hi H Q=>∃a xs,x= .ref a∧SqL K H a xs∧∀p,H p=none→Q (.ref p) (upd H p (.lst (cutV xs lo hi)))
theorem Zo0:SlR X (rSlL X.K):=by
 intro pins s σ H x v vl vu lo hi sl Q I rx hs pl pu h
 obtain⟨a,xs,rfl,hx,q⟩:=h
 cases rx
 obtain⟨its,r,ht,hz⟩:=I.list hx
 have hlen:=r.length
 refine⟨"list",_,slot_list_getitem.lookup,ht.isList.typeIs,?_⟩
 refine wpAny_getItem_list_slice ht.isList hs pl pu .none (by simp) ?_ (by rw[List.size_toArray]<;> omega)
 rw[Zee,←hlen]
 refine⟨.ref s.heap.objs.size,_,I.laid (t':=s.toks) (o:=.lst (cutV xs lo hi)) (fun b ob q=>Heap.get?_push_of_some _ q) (Nat.le_refl _) ?_,rfl,q _ (I.hok.fresh (Nat.le_refl _))⟩
 exact⟨Nat.le_trans (Zgs xs lo hi) hz,_,0,(r.drop (HT.sIx xs.length 0 lo)).take (HT.sIx xs.length xs.length hi- HT.sIx xs.length 0 lo),Heap.get?_push_size _ rfl⟩
noncomputable def Z6:V→Bool
 | .non=>true
 | .bl _=>true
 | .int _=>true
 | .str _=>true
 |_=>false
noncomputable def eqV:V→V→Bool
 | .non,.non=>true
 | .bl a,.bl b=>a==b
 | .bl a,.int b=>(if a then 1 else 0)==b
 | .int a,.bl b=>a==(if b then 1 else 0)
 | .int a,.int b=>a==b
 | .str a,.str b=>a==b
 |_,_=>false
theorem Zns{A:Around}{s:Shared}{y x:V}{u v:Value}(ry:RelV y u)(rx:RelV x v)(fy:Z6 y=true)(fx:Z6 x=true):SeqAt.EqAt A s u v (eqV y x):=by
 cases y with
 |non=>
  cases ry
  cases x with
  |non=>cases rx;exact SeqAt.EqAt.same _
  |bl b=>cases rx;exact SeqAt.EqAt.none_bool b
  |int b=>obtain⟨t,rfl⟩:=rx;exact SeqAt.EqAt.none_int b t
  |str b=>obtain⟨t,rfl⟩:=rx;exact SeqAt.EqAt.none_str b t
  |_=>exact absurd (show false=true from fx) Bool.false_ne_true
 |bl a=>
  cases ry
  cases x with
  |non=>cases rx;exact SeqAt.EqAt.bool_none a
  |bl b=>cases rx;exact SeqAt.EqAt.bool_bool a b
  |int b=>obtain⟨t,rfl⟩:=rx;exact SeqAt.EqAt.bool_int a b t
  |str b=>obtain⟨t,rfl⟩:=rx;exact SeqAt.EqAt.bool_str a b t
  |_=>exact absurd (show false=true from fx) Bool.false_ne_true
 |int a=>
  obtain⟨t',rfl⟩:=ry
  cases x with
  |non=>cases rx;exact SeqAt.EqAt.int_none a t'
  |bl b=>cases rx;exact SeqAt.EqAt.int_bool a t' b
  |int b=>obtain⟨t,rfl⟩:=rx;exact SeqAt.EqAt.int_int a t' b t
  |str b=>obtain⟨t,rfl⟩:=rx;exact SeqAt.EqAt.int_str a t' b t
  |_=>exact absurd (show false=true from fx) Bool.false_ne_true
 |str a=>
  obtain⟨t',rfl⟩:=ry
  cases x with
  |non=>cases rx;exact SeqAt.EqAt.str_none a t'
  |bl b=>cases rx;exact SeqAt.EqAt.str_bool a t' b
  |int b=>obtain⟨t,rfl⟩:=rx;exact SeqAt.EqAt.str_int a t' b t
  |str b=>obtain⟨t,rfl⟩:=rx;exact SeqAt.EqAt.str_str a t' b t
  |_=>exact absurd (show false=true from fx) Bool.false_ne_true
 |_=>exact absurd (show false=true from fy) Bool.false_ne_true
noncomputable def eqU(x:V)(u:Value):Bool:=match u with
 | .none=>eqV .non x
 | .bool b=>eqV (.bl b) x
 | .int i _=>eqV (.int i) x
 | .str z _=>eqV (.str z) x
 |_=>false
noncomputable def inV(x:V)(xs:List V):Bool:=xs.any fun y=>eqV y x
noncomputable def rIn(K:PySem.W.Frag)(neg:Bool):R2:=fun x y H Q=>∃p xs,y= .ref p∧(SqL K H p xs∨SqT K H p xs)∧Z6 x=true∧xs.all Z6=true∧Q (.bl (if neg then !inV x xs else inV x xs)) H
theorem Zfe:Zbv X (.builtin "len") (fun xs H Q=>∃p ys,xs=[.ref p]∧(SqL X.K H p ys∨SqT X.K H p ys)∧Q (.int ys.length) H):=by
 intro pins s σ H xs us Q I r h
 obtain⟨p,ys,rfl,hq,q⟩:=h
 obtain⟨u,rfl,rx⟩:=Zdt r
 cases rx
 have hn:=Ze8
 rcases hq with hq|hq
 ·obtain⟨its,r',pl,hz⟩:=I.list hq
  have hlen:=r'.length
  exact Calls.call_len_list pl.isList (by simp only[List.size_toArray]<;> omega) ⟨.int ys.length,H,I.tok _,⟨s.toks+1,by rw[List.size_toArray,hlen]⟩,q⟩
 ·obtain⟨its,r',pl,hz⟩:=I.tuple hq
  have hlen:=r'.length
  exact len_tuple pl (by simp only[List.size_toArray]<;> omega) ⟨.int ys.length,H,I.tok _,⟨s.toks+1,by rw[List.size_toArray,hlen]⟩,q⟩
theorem Zff:Zbv X (.builtin "len") (fun xs H Q=>∃z,xs=[.str z]∧z.length≤sizeLine∧Q (.int z.length) H):=by
 intro pins s σ H xs us Q I r h
 obtain⟨z,rfl,hz,q⟩:=h
 obtain⟨u,rfl,t,rfl⟩:=Zdt r
 have hn:=Ze8
 exact len_str (by omega) ⟨.int z.length,H,I.tok _,⟨_,rfl⟩,q⟩
theorem Zbv.or{f:Value}{r r':List V→Hp→VK→Prop}(h:Zbv X f r)(h':Zbv X f r'):Zbv X f (fun xs H Q=>r xs H Q∨r' xs H Q):=by
 intro pins s σ H xs us Q I rs q
 rcases q with q|q
 ·exact h pins s σ H xs us Q I rs q
 ·exact h' pins s σ H xs us Q I rs q
theorem Zfg:Zbv X (.type "list") (fun xs H Q=>∃p ys,xs=[.ref p]∧(SqL X.K H p ys∨SqT X.K H p ys)∧∀l,H l=none→Q (.ref l) (upd H l (.lst ys))):=by
 intro pins s σ H xs us Q I r h
 obtain⟨p,ys,rfl,hq,q⟩:=h
 obtain⟨u,rfl,rx⟩:=Zdt r
 cases rx
 have fin:∀(its:List Value),Vals ys its→ys.length≤sizeLine→∀(h':Heap) (c':Nat),(∀b o',s.heap.get? b=some o'→h'.get? b=some o')→
   h'.get? s.heap.objs.size=some {cls:=.type "list",dict:=none,data:=.seq its.toArray c',slots:= #[]}→EP X pins σ Q (.ref s.heap.objs.size) {s with heap:=h'}:=fun its r' hz h' c' kp e=>
  ⟨.ref s.heap.objs.size,_,I.laid (t':=s.toks) kp (Nat.le_refl _) (show Zan X.prog X.w _ h' _ (.lst ys)from⟨hz,its,c',r',e⟩),rfl,q _ (I.hok.fresh (Nat.le_refl _))⟩
 rcases hq with hq|hq
 ·obtain⟨its,r',pl,hz⟩:=I.list hq
  have hlen:=r'.length
  obtain⟨o,ho,hc,n,hd⟩:=pl.isList
  exact call_list_seq p (.inl rfl) ho hc hd (fun h' c' kp e=>fin its r' hz h' c' kp e) (by simp only[List.size_toArray]<;> omega)
 ·obtain⟨its,r',pl,hz⟩:=I.tuple hq
  have hlen:=r'.length
  obtain⟨o,ho,hc,n,hd⟩:=pl
  exact call_list_seq p (.inr rfl) ho hc hd (fun h' c' kp e=>fin its r' hz h' c' kp e) (by simp only[List.size_toArray]<;> omega)
noncomputable def tyV(K:PySem.W.Frag)(T:String)(x:V)(H:Hp):Prop:=match x with
 | .str _=>T="str"
 | .int _=>T="int"
 | .ref p=>(T="list"∧∃xs,SqL K H p xs)∨(T="tuple"∧∃o,K.lookup p=some o∧o.cls= .type "tuple"∧o.dict=none)∨
   (T="dict"∧((∃kvs,HK H p kvs)∨∃kvs,HTt H p kvs))∨(T="set"∧∃S n,H p=some (.set S n))
 |_=>False
theorem Zrq{pins:List (Addr×Obj)}{σ:St}{H:Hp}{s:Shared}{T:String}{x:V}{v:Value}(I:Inv X pins σ H s)(r:RelV x v)(ty:tyV X.K T x H):
  s.TypeIs v T∧∀a,v= .ref a→∃ob,s.heap.get? a=some ob∧ob.dict=none:=by
 cases x with
 |str z=>
  obtain⟨t,rfl⟩:=r
  cases(show T="str"from ty)
  exact⟨typeIs_str s z t,fun _ e=>nomatch e⟩
 |int i=>
  obtain⟨t,rfl⟩:=r
  cases(show T="int"from ty)
  exact⟨typeIs_int s i t,fun _ e=>nomatch e⟩
 |ref p=>
  cases r
  rcases ty with⟨rfl,xs,hq⟩|⟨rfl,o,hk,hc,hd⟩|⟨rfl,hk⟩|⟨rfl,S,n,hk⟩
  ·obtain⟨its,_,pl,_⟩:=I.list hq
   refine⟨pl.isList.typeIs,fun a e=>?_⟩
   cases e
   obtain⟨o,n,e,c,hd,_⟩:=pl
   exact⟨o,e,hd⟩
  ·refine⟨⟨o,I.kIn p o hk,hc⟩,fun a e=>?_⟩
   cases e
   exact⟨o,I.kIn _ o hk,hd⟩
  ·have z:∃o,s.heap.get? p=some o∧o.ExactDict:=by
    rcases hk with⟨kvs,ep,hk⟩|⟨kvs,ep,bs,hk⟩
    ·obtain⟨_,_,_,_,o,_,e,ex,_⟩:=I.hok p _ hk
     exact⟨o,e,ex⟩
    ·obtain⟨_,_,_,_,o,_,e,ex,_⟩:=I.hok p _ hk
     exact⟨o,e,ex⟩
   obtain⟨o,e,ex⟩:=z
   refine⟨⟨o,e,ex.1⟩,fun a e2=>?_⟩
   cases e2
   exact⟨o,e,ex.2.1⟩
  ·obtain⟨o,_,_,_,e,ex,_⟩:=I.hok p _ hk
   refine⟨⟨o,e,ex.1⟩,fun a e2=>?_⟩
   cases e2
   exact⟨o,e,ex.2.1⟩
 |_=>exact False.elim ty
noncomputable def tBM0(K:PySem.W.Frag)(T:String)(r:V→List V→Hp→VK→Prop)(to:TE):TE:=fun σ H Q=>to σ H fun x H1=>tyV K T x H1∧r x [] H1 Q
noncomputable def tBM(K:PySem.W.Frag)(T:String)(r:V→List V→Hp→VK→Prop)(to:TE)(t:TA):TE:=fun σ H Q=>to σ H fun x H1=>tyV K T x H1∧t σ H1 fun xs H2=>r x xs H2 Q
variable{o e:Expr}{es:List Expr}{to:TE}{t:TA}{name:Str}{apos cpos:Pos}{T id:String}{r:V→List V→Hp→VK→Prop}
theorem Zrr(pa:PlainAttrs T)(slot:Slot T name id)(hty:typeOf (.builtin id)=pure (.type "method_descriptor"))(hm:MtR X id r)(ho:PE X o to)(ha:PA X (e::es) t)
  (hbase:attributeBase o name X.env (eval o X.env)=eval o X.env:=by rfl)
  (hfew:((backTo cpos (starEach (e::es) X.env)).all (fun x=>!x.1)&&(backToKw cpos (keywordEach [] X.env)).all (fun x=>x.1.isSome)
   &&decide ((e::es).length+([]:List Keyword).length+(if([]:List Keyword).isEmpty then 0 else 1)<30))=true:=by rfl)
  (hline:(apos.endLine==cpos.line)=true:=by rfl) (hs:starEach (e::es) X.env=(false,eval e X.env)::starEach es X.env:=by rfl) (hplain:(backTo cpos (starEach es X.env)).any (·.1)=false:=by rfl):
  PE X (.Call (.Attribute o name apos) (e::es) [] cpos) (tBM X.K T r to t):=by
 intro pins s σ H Q I h
 refine wpAny_Call_method_late hbase hfew hline rfl (thn (ho pins s σ H _ I h) fun v s1 zq9=>?_)
 obtain⟨x,H1,I1,r1,ty,q1⟩:=zq9
 obtain⟨h1,h2⟩:=Zrq I1 r1 ty
 refine⟨T,id,pa,slot,hty,h1,h2,?_⟩
 have hA:=ha cpos pins s1 σ H1 _ I1 q1
 rw[hs]at hA⊢
 refine Calls.callWith_builtin (by show(false|| (backTo cpos (starEach es X.env)).any (·.1))=false;rw[hplain]<;> rfl) (Calls.evalArgs_plain ?_)
 exact thn hA fun us s2 ⟨vs,H2,I2,r2,q2⟩=>hm pins s2 σ H2 x vs v us Q I2 r1 r2 q2
end
end L2
namespace L2
open PySem PySem.Spec PyProof.Rows
noncomputable def MtM(X:Cx)(id:String)(r:V→List V→Hp→VK→Prop):Prop:=
 ∀(pins:List (Addr×Obj)) (s:Shared) (σ:St) (H:Hp) (x:V) (xs:List V) (v:Value) (us:List Value) (Q:VK),Inv X pins σ H s→RelV x v→Vals xs us→r x xs H Q→
  wpAny (model X.prog X.w) X.A (call (.builtin id) (v::us)) (EP X pins σ Q) X.xe s
theorem Vals.one{x:V}{us:List Value}(h:Vals [x] us):∃u,us=[u]∧RelV x u:=by
 cases h with
 |cons r t=>cases t;exact⟨_,rfl,r⟩
section
variable{X:Cx}{pins:List (Addr×Obj)}{σ:St}{H:Hp}{s:Shared}{l b:Addr}{xs ys zs:List V}
theorem Inv.lset{its its':List Value}{n:Nat}{f:Array Value→Array Value}{t':Nat}(I:Inv X pins σ H s)(hH:H l=some (.lst xs))
  (e:s.heap.get? l=some {cls:=.type "list",data:=.seq its.toArray n}) (hf:f its.toArray=its'.toArray) (hv:Vals ys its') (hz:ys.length≤sizeLine):
  Inv X pins σ (upd H l (.lst ys)) {s with heap:=s.heap.update l (Obj.mapSeq f),toks:=t'}:=by
 have q:=PySem.IsL.update e f
 rw[hf]at q
 refine I.write (x:=l) (e:=l) (by rw[hH];exact trivial) (.inl rfl) (fun b' u hb hu=>(Heap.get?_update_other s.heap (Obj.mapSeq f) (Ne.symm hb)).trans hu) ⟨_,q⟩ ?_
 exact⟨hz,its',_,hv,q⟩
theorem Inv.lnew{its:List Value}{t':Nat}(I:Inv X pins σ H s)(hv:Vals ys its)(hz:ys.length≤sizeLine):
  Inv X pins σ (upd H s.heap.objs.size (.lst ys)) {s with heap:=s.heap.push {cls:=.type "list",data:=.seq its.toArray},toks:=t'}:=
 I.laid (fun _ _ q=>Heap.get?_push_of_some _ q) (Nat.le_refl _) ⟨hz,its,0,hv,Heap.get?_push_size _ rfl⟩
theorem Inv.fresh(I:Inv X pins σ H s):H s.heap.objs.size=none:=I.hok.fresh (Nat.le_refl _)
theorem Inv.lstM(I:Inv X pins σ H s)(hH:H l=some (.lst xs)):xs.length≤sizeLine∧∃(its:List Value) (n:Nat),Vals xs its∧xs.length=its.length∧s.heap.get? l=some {cls:=.type "list",data:=.seq its.toArray n}:=by
 obtain⟨z,its,n,r,e⟩:=I.hok l _ hH
 exact⟨z,its,n,r,r.length,e⟩
end
section
variable{X:Cx}
noncomputable def Zc6:V→List V→Hp→VK→Prop:=fun x vs H Q=>∃l xs y,x= .ref l∧vs=[y]∧H l=some (.lst xs)∧xs.length<sizeLine∧Q .non (upd H l (.lst (xs++[y])))
theorem Zfh:MtM X "list.append" Zc6:=by
 intro pins s σ H x vs v us Q I rx rv h
 obtain⟨l,xs,y,rfl,rfl,hH,hz,q⟩:=h
 cases rx
 obtain⟨u,rfl,ru⟩:=rv.one
 obtain⟨z,its,n,r,hl,e⟩:=I.lstM hH
 refine call_meets F.slot_list_append ⟨_,e,rfl⟩ F.entry_list_append (F.args_list_append_2 _ _) (PySem.list_append l its.toArray n u (by rw[List.size_toArray];omega)) ⟨e,?_⟩
 refine⟨.non,_,I.lset (its':=its++[u]) hH e (by simp) (r.append (.cons ru .nil)) ?_,rfl,q⟩
 rw[List.length_append,List.length_singleton]
 omega
noncomputable def Zu4:V→List V→Hp→VK→Prop:=fun x vs H Q=>∃l b xs zs,x= .ref l∧vs=[.ref b]∧H l=some (.lst xs)∧H b=some (.lst zs)∧xs.length+zs.length≤sizeLine∧Q .non (upd H l (.lst (xs++zs)))
noncomputable def rPop:V→List V→Hp→VK→Prop:=fun x vs H Q=>∃l xs y,x= .ref l∧vs=[]∧H l=some (.lst xs)∧xs[xs.length- 1]? =some y∧Q y (upd H l (.lst xs.dropLast))
noncomputable def Zxg:V→List V→Hp→VK→Prop:=fun x vs H Q=>∃l xs i k y,x= .ref l∧vs=[.int i]∧H l=some (.lst xs)∧-(2^63)≤i∧i<2^63∧seqIndex? i xs.length=some k∧xs[k]? =some y∧Q y (upd H l (.lst (xs.eraseIdx k)))
noncomputable def Zud:V→List V→Hp→VK→Prop:=fun x vs H Q=>∃l xs,x= .ref l∧vs=[]∧H l=some (.lst xs)∧Q .non (upd H l (.lst xs.reverse))
noncomputable def Zxh:V→List V→Hp→VK→Prop:=fun x vs H Q=>∃l xs,x= .ref l∧vs=[]∧H l=some (.lst xs)∧Q .non (upd H l (.lst []))
noncomputable def rCat:R2:=fun x y H Q=>∃l b xs zs,x= .ref l∧y= .ref b∧H l=some (.lst xs)∧H b=some (.lst zs)∧xs.length+zs.length≤sizeLine∧∀p,H p=none→Q (.ref p) (upd H p (.lst (xs++zs)))
noncomputable def rRep:R2:=fun x y H Q=>∃l k xs,x= .ref l∧y= .int k∧H l=some (.lst xs)∧-(2^63)≤k∧k<2^63∧xs.length*k.toNat≤sizeLine∧
 ∀p,H p=none→Q (.ref p) (upd H p (.lst (List.replicate k.toNat xs).flatten))
end
section
variable{prog:Program}{w:World}{A:Around}{E:Value→Shared→Prop}{s:Shared}
end
section
variable{X:Cx}
end
end L2
namespace L2
open PySem PySem.Spec PyProof.Rows
section
variable{κ:Type}[DecidableEq κ]
noncomputable def valV(kvs:List (κ×V))(k:κ):Option V:=(kvs.find? fun kv=>decide (kv.1=k)).map (·.2)
noncomputable def putK(kvs:List (κ×V))(k:κ)(v:V):List (κ×V):=
 if(kvs.any fun kv=>decide (kv.1=k))=true then kvs.map (fun kv=>if kv.1=k then(kv.1,v)else kv)else kvs++[(k,v)]
noncomputable def Zo1(kvs:List (κ×V))(k:κ):List (κ×V):=kvs.filter fun kv=>decide (kv.1≠k)
theorem Zmh{k:κ}:valV ([]:List (κ×V)) k=none:=rfl
theorem Zcz{p:κ×V}{r:List (κ×V)}{k:κ}(e:p.1=k):valV (p::r) k=some p.2:=by simp[valV,List.find?_cons,e]
theorem Zc0{p:κ×V}{r:List (κ×V)}{k:κ}(e:¬p.1=k):valV (p::r) k=valV r k:=by simp[valV,List.find?_cons,e]
theorem Zef(k:κ):∀kvs:List (κ×V),(kvs.any fun kv=>decide (kv.1=k))=(valV kvs k).isSome
 | []=>rfl
 |p::r=>by
  rw[List.any_cons]
  by_cases e:p.1=k
  ·simp only[Zcz e,decide_eq_true e,Bool.true_or,Option.isSome_some]
  ·rw[Zc0 e,decide_eq_false e,Bool.false_or];exact Zef k r
theorem Zc7(kvs:List (κ×V))(k:κ)(v:V):(putK kvs k v).length≤kvs.length+1:=by
 unfold putK
 split
 ·rw[List.length_map];omega
 ·rw[List.length_append,List.length_cons,List.length_nil];omega
theorem RelO.isSome_eq{o:Option V}{u:Option Value}(r:RelO o u):o.isSome=u.isSome:=by
 cases o with
 |none=>cases u with
  |none=>rfl
  |some _=>exact(show False from r).elim
 |some _=>cases u with
  |none=>exact(show False from r).elim
  |some _=>rfl
theorem RelO.getD{o:Option V}{u:Option Value}{d:V}{d':Value}(r:RelO o u)(rd:RelV d d'):RelV (o.getD d) (u.getD d'):=by
 cases o with
 |none=>cases u with
  |none=>exact rd
  |some _=>exact(show False from r).elim
 |some _=>cases u with
  |none=>exact(show False from r).elim
  |some _=>exact r
theorem KV.val{kvs:List (κ×V)}{vs:List (κ×Value)}(r:KV kvs vs)(k:κ):RelO (valV kvs k) (valueAt vs k):=by
 unfold KV at r
 induction r with
 |nil=>exact True.intro
 | @cons p q ps qs h t ih=>
  obtain⟨h1,h2⟩:=h
  by_cases e:p.1=k
  ·have e':q.1=k:=h1.symm.trans e
   have b:valueAt (q::qs) k=some q.2:=by simp[valueAt,List.find?_cons,e']
   rw[Zcz e,b];exact h2
  ·have e':¬q.1=k:=fun z=>e (h1.trans z)
   have b:valueAt (q::qs) k=valueAt qs k:=by simp[valueAt,List.find?_cons,e']
   rw[Zc0 e,b];exact ih
theorem KV.any{kvs:List (κ×V)}{vs:List (κ×Value)}(r:KV kvs vs)(k:κ):(kvs.any fun kv=>decide (kv.1=k))=vs.any fun kv=>decide (kv.1=k):=by
 unfold KV at r
 induction r with
 |nil=>rfl
 |cons h t ih=>rw[List.any_cons,List.any_cons,ih,h.1]
theorem KV.repl{kvs:List (κ×V)}{vs:List (κ×Value)}(r:KV kvs vs)(k:κ){y:V}{u:Value}(ry:RelV y u):
  KV (kvs.map fun kv=>if kv.1=k then(kv.1,y)else kv) (vs.map fun kv=>if kv.1=k then(kv.1,u)else kv):=by
 unfold KV at r⊢
 induction r with
 |nil=>exact .nil
 | @cons p q ps qs h t ih=>
  rw[List.map_cons,List.map_cons]
  refine .cons ?_ ih
  obtain⟨h1,h2⟩:=h
  by_cases e:p.1=k
  ·rw[if_pos e,if_pos (h1.symm.trans e)];exact⟨h1,ry⟩
  ·rw[if_neg e,if_neg (fun z=>e (h1.trans z))];exact⟨h1,h2⟩
theorem KV.put{kvs:List (κ×V)}{vs:List (κ×Value)}(r:KV kvs vs)(k:κ){y:V}{u:Value}(ry:RelV y u):KV (putK kvs k y) (stored vs k u):=by
 unfold putK stored
 rw[r.any k]
 by_cases e:(vs.any fun kv=>decide (kv.1=k))=true
 ·rw[if_pos e,if_pos e];exact r.repl k ry
 ·rw[if_neg e,if_neg e];exact Paired.snoc r ⟨rfl,ry⟩
theorem KV.length{kvs:List (κ×V)}{vs:List (κ×Value)}(r:KV kvs vs):kvs.length=vs.length:=Paired.length r
end
theorem Zjy{P:Program}{w:World}{k:Key}{u:Value}(r:RelV (kV k) u):(Zy P w).is k u=true:=by
 cases k with
 |inl i=>obtain⟨t,e⟩:=(show∃t,u=Value.int i t from r);subst e;exact Zgq P w i t
 |inr x=>obtain⟨t,e⟩:=(show∃t,u=Value.str x t from r);subst e;exact Zgr P w x t
theorem Zfi{P:Program}{w:World}:∀{ks:List Key} {us:List Value},Vals (ks.map kV) us→ItemsAre (Zy P w) ks us
 | [],_,r=>by rw[List.map_nil]at r;cases r;exact .nil
 |k::ks,_,r=>by
  rw[List.map_cons]at r
  cases r with
  |cons h t=>exact .cons (Zjy h) (Zfi t)
noncomputable abbrev KT(H:Hp):List (List Key×V)→List (List Key×Addr×Value)→Prop:=Paired fun p q=>p.1=q.1∧H q.2.1=some (.tup (p.1.map kV))∧RelV p.2 q.2.2
theorem KT.val{H:Hp}{kvs:List (List Key×V)}{xs:List (List Key×Addr×Value)}(r:KT H kvs xs)(k:List Key):RelO (valV kvs k) ((atKey xs k).map (·.2)):=by
 induction r with
 |nil=>exact True.intro
 | @cons p q ps qs h t ih=>
  obtain⟨h1,_,h2⟩:=h
  by_cases e:p.1=k
  ·have e':q.1=k:=h1.symm.trans e
   have b:atKey (q::qs) k=some q.2:=by simp[atKey,List.find?_cons,e']
   rw[Zcz e,b];exact h2
  ·have e':¬q.1=k:=fun z=>e (h1.trans z)
   have b:atKey (q::qs) k=atKey qs k:=by simp[atKey,List.find?_cons,e']
   rw[Zc0 e,b];exact ih
theorem KT.repl{H:Hp}{kvs:List (List Key×V)}{xs:List (List Key×Addr×Value)}(r:KT H kvs xs)(k:List Key){y:V}{u:Value}(ry:RelV y u):
  KT H (kvs.map fun kv=>if kv.1=k then(kv.1,y)else kv) (xs.map (putAt k u)):=by
 induction r with
 |nil=>exact .nil
 | @cons p q ps qs h t ih=>
  rw[List.map_cons,List.map_cons]
  refine .cons ?_ ih
  obtain⟨h1,h2,h3⟩:=h
  unfold putAt
  by_cases e:p.1=k
  ·rw[if_pos e,if_pos (h1.symm.trans e)];exact⟨h1,h2,ry⟩
  ·rw[if_neg e,if_neg (fun z=>e (h1.trans z))];exact⟨h1,h2,h3⟩
theorem KT.put{H:Hp}{kvs:List (List Key×V)}{xs:List (List Key×Addr×Value)}(r:KT H kvs xs)(k:List Key){b:Addr}{y:V}{u:Value}(hb:H b=some (.tup (k.map kV)))(ry:RelV y u):
  KT H (putK kvs k y) (storedH xs k b u):=by
 have e:(kvs.any fun kv=>decide (kv.1=k))=(atKey xs k).isSome:=by
  rw[Zef,(r.val k).isSome_eq,Option.isSome_map]
 unfold putK storedH
 rw[e]
 by_cases q:(atKey xs k).isSome=true
 ·rw[if_pos q,if_pos q];exact r.repl k ry
 ·rw[if_neg q,if_neg q];exact Paired.snoc r ⟨rfl,hb,ry⟩
theorem KT.keeps{H H':Hp}{kvs:List (List Key×V)}{xs:List (List Key×Addr×Value)}(r:KT H kvs xs)(ht:∀b ys,H b=some (.tup ys)→H' b=some (.tup ys)):KT H' kvs xs:=
 Paired.mapP r fun _ _ z=>⟨z.1,ht _ _ z.2.1,z.2.2⟩
section
variable{P:Program}{w:World}{H:Hp}{h:Heap}{a:Addr}
theorem Zrs{u:HO}(ok:HOk P w H h)(e:Rd H a u):Zan P w H h a u:=e.ok ok
theorem Zjz{kvs:List (Key×V)}(ok:HOk P w H h)(e:RdK H a kvs):kvs.length≤sizeLine∧(a==sysModules)=false∧∃vs,KV kvs vs∧h.DictOf (Zy P w) a vs:=
 let⟨ep,e⟩:=e;let⟨z,y,vs,r,d⟩:=(show Zan P w H h a (.dK kvs ep)from Zrs ok e);⟨z,y,vs,r,d.dictOf⟩
theorem Zrt{kvs:List (Key×V)}(ok:HOk P w H h)(e:HK H a kvs):kvs.length≤sizeLine∧(a==sysModules)=false∧∃vs,KV kvs vs∧h.DictOf (Zy P w) a vs:=Zjz ok e.rd
theorem Zfj{ks:List Key}(ok:HOk P w H h)(e:H a=some (.tup (ks.map kV))):(tupleKind (Zy P w)).is h ks a:=by
 obtain⟨_,its,r,o,h1,h2,n,h3⟩:=(show Zan P w H h a (.tup (ks.map kV))from ok a _ e)
 exact⟨o,its.toArray,n,h1,h2,h3,by simpa using Zfi r⟩
theorem Zj0{kvs:List (List Key×V)}(ok:HOk P w H h)(e:RdT H a kvs):kvs.length≤sizeLine∧(a==sysModules)=false∧
  ∃xs,KT H kvs xs∧h.DictOfH (tupleKind (Zy P w)) a xs:=by
 obtain⟨ep,bs,e⟩:=e
 obtain⟨z,y,xs,r,o,es,h1,h2,h3,h4,h5,_⟩:=(show Zan P w H h a (.dT kvs ep bs)from Zrs ok e)
 refine⟨z,y,xs,r,o,es,ep,h1,h2,h3,h4,fun x hx=>?_,h5⟩
 have all:∀{l:List (List Key×V)} {m:List (List Key×Addr×Value)},KT H l m→∀x∈m,(tupleKind (Zy P w)).is h x.1 x.2.1:=by
  intro l m q
  induction q with
  |nil=>intro x hx;exact nomatch hx
  | @cons p q ps qs hq t ih=>
   intro x hx
   rcases List.mem_cons.mp hx with e|hx
   ·subst e
    exact Zfj ok (by rw[←hq.1];exact hq.2.1)
   ·exact ih x hx
 exact all r x hx
theorem Zu5{kvs:List (List Key×V)}(ok:HOk P w H h)(e:HTt H a kvs):kvs.length≤sizeLine∧(a==sysModules)=false∧
  ∃xs,KT H kvs xs∧h.DictOfH (tupleKind (Zy P w)) a xs:=Zj0 ok e.rd
end
noncomputable def DGet(H:Hp)(a:Addr)(y:V)(r:Option V):Prop:=
 (∃kvs k,RdK H a kvs∧y=kV k∧r=valV kvs k)∨∃kvs k b,RdT H a kvs∧y= .ref b∧H b=some (.tup (k.map kV))∧r=valV kvs k
noncomputable def DPut(H:Hp)(a:Addr)(y v:V)(R:Hp→Prop):Prop:=
 (∃kvs k,HK H a kvs∧y=kV k∧kvs.length<sizeLine∧∀ep,R (upd H a (.dK (putK kvs k v) ep)))∨
 ∃kvs k b,HTt H a kvs∧y= .ref b∧H b=some (.tup (k.map kV))∧kvs.length<sizeLine∧∀ep ep0 bs,H a=some (.dT kvs ep0 bs)→R (upd H a (.dT (putK kvs k v) ep (putB kvs bs k b)))
theorem DGet.k{H:Hp}{a:Addr}{kvs:List (Key×V)}{k:Key}(e:HK H a kvs):DGet H a (kV k) (valV kvs k):=.inl ⟨kvs,k,e.rd,rfl,rfl⟩
theorem DGet.t{H:Hp}{a b:Addr}{kvs:List (List Key×V)}{k:List Key}(e:HTt H a kvs)(eb:H b=some (.tup (k.map kV))):DGet H a (.ref b) (valV kvs k):=.inr ⟨kvs,k,b,e.rd,rfl,eb,rfl⟩
theorem DPut.k{H:Hp}{a:Addr}{kvs:List (Key×V)}{k:Key}{v:V}{R:Hp→Prop}(e:HK H a kvs)(hl:kvs.length<sizeLine)(h:∀ep,R (upd H a (.dK (putK kvs k v) ep))):DPut H a (kV k) v R:=.inl ⟨kvs,k,e,rfl,hl,h⟩
theorem DPut.t{H:Hp}{a b:Addr}{kvs:List (List Key×V)}{k:List Key}{v:V}{R:Hp→Prop}(e:HTt H a kvs)(eb:H b=some (.tup (k.map kV)))(hl:kvs.length<sizeLine)(h:∀ep ep0 bs,H a=some (.dT kvs ep0 bs)→R (upd H a (.dT (putK kvs k v) ep (putB kvs bs k b)))):
  DPut H a (.ref b) v R:=.inr ⟨kvs,k,b,e,rfl,eb,hl,h⟩
section
variable{X:Cx}{pins:List (Addr×Obj)}{σ:St}{H:Hp}{s:Shared}{a:Addr}{y v:V}{u r:Value}{o:Option V}{A:Around}{E:Value→Shared→Prop}
theorem Inv.big(I:Inv X pins σ H s):sysModules<s.heap.objs.size:=by
 have h:mainGlobals<s.heap.objs.size:=(I.mod.glob.keeps I.bk).lt
 exact Nat.lt_trans (by decide) h
theorem Zj1{Q:Value→Shared→Prop}(hu:A.units+1<cLine)(I:Inv X pins σ H s)(g:DGet H a y (some v))(ry:RelV y u)(h:∀w' s',Inv X pins σ H s'→RelV v w'→Q w' s'):
  wpAny (model X.prog X.w) A (getItem (.ref a) u) Q E s:=by
 rcases g with⟨kvs,k,e,ey,l⟩|⟨kvs,k,b,e,ey,eb,l⟩
 ·subst ey
  obtain⟨z,hd,vs,rel,dd⟩:=Zjz I.hok e
  obtain⟨w',hw,rw'⟩:=RelO.some_of (v:=v) (o:=valueAt vs k) (by rw[l];exact rel.val k)
  exact wpAny_getItem_of (Zjy ry) dd.mapOf hw (h w' _ (I.tok _) rw')
 ·subst ey
  cases(show u=Value.ref b from ry)
  obtain⟨z,hd,xs,rel,dd⟩:=Zj0 I.hok e
  obtain⟨w',hw,rw'⟩:=RelO.some_of (v:=v) (o:=(atKey xs k).map (·.2)) (by rw[l];exact rel.val k)
  obtain⟨p,hp,hp2⟩:=Option.map_eq_some_iff.mp hw
  refine wpAny_getItem_heap (tupleKind_room_in1 hu) (Zfj I.hok eb) dd hp ?_
  rw[hp2]
  exact h w' _ (I.tok _) rw'
theorem Zj2{h':Heap}{t':Nat}{ob:HO}(I:Inv X pins σ H s)(mu:Mut (H a))(hs:Heap.SameBut a s.heap h')(he:∃q,h'.get? a=some q)(new:Zan X.prog X.w (upd H a ob) h' a ob):
  Inv X pins σ (upd H a ob) {s with heap:=h',toks:=t'}:=
 I.write (x:=a) (e:=a) mu (.inl rfl) (fun b q hb z=>(hs.2 b hb).trans z) he new
theorem Zru{P:Program}{w:World}{h':Heap}{kvs:List (Key×V)}{vs:List (Key×Value)}(z:kvs.length≤sizeLine)(hd:(a==sysModules)=false)(rel:KV kvs vs)(dd:h'.DictOf (Zy P w) a vs):
  ∃ep,∀H':Hp,Zan P w H' h' a (.dK kvs ep):=let⟨ep,dd⟩:=dd.dictAt;⟨ep,fun _=>⟨z,hd,vs,rel,dd⟩⟩
theorem Zj3{R:Hp→Prop}{Q:Unit→Shared→Prop}(hu:A.units+1<cLine)(I:Inv X pins σ H s)(g:DPut H a y v R)(ry:RelV y u)(rv:RelV v r)(h:∀H' s',R H'→Inv X pins σ H' s'→Q () s'):
  wpAny (model X.prog X.w) A (setItem (.ref a) u r) Q E s:=by
 rcases g with⟨kvs,k,e,ey,l,eH⟩|⟨kvs,k,b,e,ey,eb,l,eH⟩
 ·subst ey
  obtain⟨z,hd,vs,rel,dd⟩:=Zrt I.hok e
  have hz:vs.length≤sizeLine:=by rw[←rel.length];exact z
  have hl:(putK kvs k v).length≤sizeLine:=by have:=Zc7 kvs k v;omega
  refine wpAny_setItem_pairs (hsz:=hz) (Zjy ry) dd fun h' dd' hs=>?_
  have he:∃q,h'.get? a=some q:=let⟨q,_,_,hq,_⟩:=dd';⟨q,hq⟩
  obtain⟨ep,ok⟩:=Zru hl hd (rel.put k rv) dd'
  exact h _ _ (eH ep) (Zj2 I (by obtain⟨e0,e⟩:=e;rw[e];exact True.intro) hs he (ok _))
 ·subst ey
  cases(show u=Value.ref b from ry)
  obtain⟨z,hd,xs,rel,dd⟩:=Zu5 I.hok e
  have hz:xs.length≤sizeLine:=by rw[←Paired.length rel];exact z
  have hl:(putK kvs k v).length≤sizeLine:=by have:=Zc7 kvs k v;omega
  refine wpAny_setItem_heap (hsz:=hz) (tupleKind_room_in1 hu) (Zfj I.hok eb) dd fun h' dd' hs=>?_
  obtain⟨q,es,ep,hq,h2,h3,h4,_,h5⟩:=dd'
  obtain⟨e0,bs,e⟩:=e
  have hb:(xs.map fun x=>x.2.1)=bs:=by
   obtain⟨_,_,xs',r',_,_,w1,_,w3,w4,_,w6⟩:=(show Zan X.prog X.w H s.heap a (.dT kvs e0 bs)from I.hok a _ e)
   obtain⟨_,_,_,y1,_,y3,y4,_⟩:=dd
   rw[w1]at y1;cases y1
   rw[w3]at y3;cases y3
   have:xs'.map (fun x=>x.2.1)=xs.map fun x=>x.2.1:=by
    have z:=congrArg (List.map DictEntry.key) (w4.symm.trans y4)
    rw[List.map_map,List.map_map]at z
    have inj:∀{l m:List (List Key×Addr×Value)},l.map (DictEntry.key∘entryOfKey (tupleKind (Zy X.prog X.w)))=m.map (DictEntry.key∘entryOfKey (tupleKind (Zy X.prog X.w)))→(l.map fun x=>x.2.1)=m.map fun x=>x.2.1:=by
     intro l
     induction l with
     |nil=>intro m z;cases m with
      |nil=>rfl
      |cons _ _=>cases z
     |cons x l ih=>intro m z;cases m with
      |nil=>cases z
      |cons y m=>
       rw[List.map_cons,List.map_cons]at z⊢
       injection z with z1 z2
       have z1':Value.ref x.2.1=Value.ref y.2.1:=z1
       injection z1' with z1'
       rw[z1',ih z2]
    exact inj z
   rw[←this];exact w6
  have hb2:((storedH xs k b r).map fun x=>x.2.1)=putB kvs bs k b:=by
   have ee:(kvs.any fun kv=>decide (kv.1=k))=(atKey xs k).isSome:=by
    rw[Zef,(rel.val k).isSome_eq,Option.isSome_map]
   unfold putB storedH
   rw[ee]
   by_cases qq:(atKey xs k).isSome=true
   ·rw[if_pos qq,if_pos qq,List.map_map,←hb]
    refine List.map_congr_left fun x _=>?_
    show(putAt k r x).2.1=x.2.1
    unfold putAt
    split<;> rfl
   ·rw[if_neg qq,if_neg qq,List.map_append,hb];rfl
  refine h _ _ (eH ep e0 bs e) (Zj2 I (by rw[e];exact True.intro) hs ⟨q,hq⟩ ⟨hl,hd,_,(rel.put k eb rv).keeps fun c ys ec=>?_,q,es,hq,h2,h3,h4,h5,hb2⟩)
  rw[Zl (Zut ec e (fun z=>nomatch z))]
  exact ec
end
section
variable{X:Cx}{pins:List (Addr×Obj)}{σ:St}{H:Hp}{s:Shared}{a:Addr}{kvs:List (Key×V)}{k:Key}{u:Value}{A:Around}{E:Value→Shared→Prop}
end
noncomputable def NoSl(i:Expr):Prop:=∀ov iv,subscripted i false ov iv=operate [ov,iv] (getItem ov iv)
theorem Zo2{prog:Program}{w:World}{A:Around}{E:Value→Shared→Prop}{s:Shared}{env:Env}{value slice:Expr}{pos:Pos}{T id:String}{Q:Value→Shared→Prop}
  (hl:typeLookup (.type T) "__getitem__"=pure (some (.builtin id))) (hs:NoSl slice)
  (h:wpAny (model prog w) A (eval value env) (fun o s₁=>wpAny (model prog w) A (eval slice env) (fun i s₂=>s₂.TypeIs o T∧wpAny (model prog w) A (getItem o i) Q E s₂) E s₁) E s):
  wpAny (model prog w) A (eval (.Subscript value slice pos) env) Q E s:=by
 refine Subscript_ (wpAny_mono h (fun o s₁ h₁=>wpAny_mono h₁ (fun i s₂ h₂=>?_) fun _ _ x=>x) fun _ _ x=>x)
 obtain⟨hT,h₂⟩:=h₂
 unfold subscriptTail
 refine wpAny_bind ?_
 rw[getitemInPython_of_ne hT.not_modules]
 refine wpAny_bind (wpAny_specialOf hT hl ?_)
 have fin:wpAny (model prog w) A (subscripted slice false o i) (fun r s₃=>wpAny (model prog w) A (letTemporaryGo value o r >>=fun _=>pure r) Q E s₃) E s₂:=by
  rw[hs o i]
  exact wpAny_operating (wpAny_mono h₂ (fun r s₃ h₃=>wpAny_bind (wpAny_letTemporaryGo (wpAny_pure h₃))) fun _ _ x=>x)
 first
  |exact wpAny_pure (wpAny_bind fin)
  |exact wpAny_bind (wpAny_pure (wpAny_bind fin))
  |exact wpAny_bind fin
theorem Zgu{X:Cx}{pins:List (Addr×Obj)}{σ:St}{H:Hp}{s:Shared}{a:Addr}{y:V}{o:Option V}(I:Inv X pins σ H s)(g:DGet H a y o):s.TypeIs (.ref a) "dict":=by
 rcases g with⟨kvs,k,e,_,_⟩|⟨kvs,k,b,e,_,_,_⟩
 ·obtain⟨_,_,vs,_,dd⟩:=Zjz I.hok e
  exact dd.typeIs
 ·obtain⟨_,_,xs,_,dd⟩:=Zj0 I.hok e
  exact dd.typeIs
noncomputable def Zrv(td ty:TE):TE:=fun σ H Q=>td σ H fun x H1=>ty σ H1 fun y H2=>∃a v,x= .ref a∧DGet H2 a y (some v)∧Q v H2
noncomputable def tDIn(ty td:TE):TE:=fun σ H Q=>ty σ H fun y H1=>td σ H1 fun x H2=>∃a o,x= .ref a∧DGet H2 a y o∧Q (.bl o.isSome) H2
noncomputable def Zu6(ty td:TE):TE:=fun σ H Q=>ty σ H fun y H1=>td σ H1 fun x H2=>∃a o,x= .ref a∧DGet H2 a y o∧Q (.bl (!o.isSome)) H2
noncomputable def Zrw(td ty tv:TE):TS:=fun D σ H=>tv σ H fun v H1=>td σ H1 fun x H2=>ty σ H2 fun y H3=>∃a,x= .ref a∧DPut H3 a y v (D.nx σ)
noncomputable def Zzc(td ty tv:TE)(rd:V→V→Hp→VK→Prop):TS:=fun D σ H=>td σ H fun x H1=>ty σ H1 fun y H2=>∃a v,x= .ref a∧DGet H2 a y (some v)∧
 tv σ H2 fun y2 H3=>rd v y2 H3 fun z H4=>DPut H4 a y z (D.nx σ)
noncomputable def Zzd(td ty:TE):TS:=fun D σ H=>td σ H fun x H1=>ty σ H1 fun y H2=>∃a kvs k,x= .ref a∧HK H2 a kvs∧y=kV k∧(valV kvs k).isSome=true∧∀ep,D.nx σ (upd H2 a (.dK (Zo1 kvs k) ep))
section
variable{X:Cx}{o i e value:Expr}{pos pos' tpos:Pos}{td ty tv:TE}
theorem Zo3(hu:X.A.units+1<cLine)(ho:PE X o td)(hi:PE X i ty)(hs:NoSl i):PE X (.Subscript o i pos) (Zrv td ty):=by
 intro pins s σ H Q I h
 refine Zo2 PySem.F.slot_dict_getitem.lookup hs (thn (ho pins s σ H _ I h) fun u s1 ⟨x,H1,I1,rx,q1⟩=>thn (hi pins s1 σ H1 _ I1 q1) fun iv s2 zq9=>?_)
 obtain⟨y,H2,I2,ry,a,v,ex,g,q2⟩:=zq9
 subst ex
 obtain rfl:u=Value.ref a:=rx
 exact⟨Zgu I2 g,Zj1 hu I2 g ry fun w' s3 I3 rw'=>⟨v,H2,I3,rw',q2⟩⟩
theorem Zo4(hu:X.A.units+1<cLine)(ho:PE X o td)(hi:PE X i ty)(hv:PE X value tv)(hs:swapsWith value (some (.Subscript o i pos')) pos.line X.env=pure false):
  PS X (.Assign [.Subscript o i pos'] value pos) (Zrw td ty tv):=by
 intro pins s σ H D I h
 refine wpAny_Assign_Subscript (thn (hv pins s σ H _ I h) fun r s1 ⟨v,H1,I1,rv,q1⟩=>thn (ho pins s1 σ H1 _ I1 q1) fun u s2 ⟨x,H2,I2,rx,q2⟩=>thn (hi pins s2 σ H2 _ I2 q2) fun iv s3 ⟨y,H3,I3,ry,a,ex,g⟩=>?_) hs
 subst ex
 obtain rfl:u=Value.ref a:=rx
 exact Zj3 hu I3 g ry rv fun H4 s4 q3 I4=>⟨σ,H4,I4,q3⟩
end
theorem Zmi{P:Program}{w:World}{H:Hp}(h:Heap)(hb:sysModules<h.objs.size):Zan P w H (h.push {cls:=.type "dict",data:=.dict #[]}) h.objs.size (.dT [] 0 []):=
 ⟨Nat.zero_le _,beq_eq_false_iff_ne.mpr (Ne.symm (Nat.ne_of_lt hb)),[],.nil,_, #[],Heap.get?_push_size _ rfl,⟨rfl,rfl,rfl⟩,rfl,rfl,List.nodup_nil,rfl⟩
noncomputable def Zxi:TE:=fun _ H Q=>∀p,H p=none→Q (.ref p) (upd H p (.dK [] 0))
noncomputable def Znt:TE:=fun _ H Q=>∀p,H p=none→Q (.ref p) (upd H p (.dT [] 0 []))
section
variable{X:Cx}{pos:Pos}
theorem Zmj:PE X (.Dict [] [] pos) Znt:=fun pins s σ H Q I h=>
 wpAny_Dict_empty ⟨.ref s.heap.objs.size,_,I.laid (a:=s.heap.objs.size) (o:=.dT [] 0 []) (t':=s.toks) (fun _ _ q=>Heap.get?_push_of_some _ q) (Nat.le_refl _) (Zmi s.heap I.big),rfl,h _ (I.hok.fresh (Nat.le_refl _))⟩
end
noncomputable def Zhs:List (TE×TE)→St→Hp→(List (V×V)→Hp→Prop)→Prop
  | [],_,H,Q=>Q [] H
  | (tk,tv)::r,σ,H,Q=>tk σ H fun x H1=>tv σ H1 fun y H2=>Zhs r σ H2 fun ps H3=>Q ((x,y)::ps) H3
noncomputable abbrev VV:List (V×V)→List (Value×Value)→Prop:=Paired fun p q=>RelV p.1 q.1∧RelV p.2 q.2
noncomputable def PPs(X:Cx)(pos:Pos)(keys:List (Option Expr))(values:List Expr)(trs:List (TE×TE)):Prop:=
 ∀(pins:List (Addr×Obj)) (s:Shared) (σ:St) (H:Hp) (Q:List (V×V)→Hp→Prop),Inv X pins σ H s→Zhs trs σ H Q→
  wpAny (model X.prog X.w) X.A (evalPairs (pairTrees keys values X.env pos)) (fun vs s'=>∃ps H',Inv X pins σ H' s'∧VV ps vs∧Q ps H') X.xe s
noncomputable def Znu(kvs more:List (Key×V)):List (Key×V):=more.foldl (fun acc kv=>putK acc kv.1 kv.2) kvs
noncomputable def Zze(trs:List (TE×TE)):TE:=fun σ H Q=>∀p,H p=none→Zhs trs σ (upd H p (.dK [] 0)) fun ps H2=>H2 p=some (.dK [] 0)∧∃kvs:List (Key×V),ps=kvs.map (fun kv=>(kV kv.1,kv.2))∧kvs.length≤15∧∀ep,Q (.ref p) (upd H2 p (.dK (Znu [] kvs) ep))
structure M1(X:Cx)(o:Expr)(m:Str)(apos:Pos)(e:Expr)(cpos:Pos):Prop where
 base:attributeBase o m X.env (eval o X.env)=eval o X.env
 few:((backTo cpos (starEach [e] X.env)).all (fun x=>!x.1)&&(backToKw cpos (keywordEach [] X.env)).all (fun x=>x.1.isSome)
  &&decide (([e]:List Expr).length+([]:List Keyword).length+(if([]:List Keyword).isEmpty then 0 else 1)<30))=true
 line:(apos.endLine==cpos.line)=true
 trees:backTo cpos (starEach [e] X.env)=[(false,eval e X.env)]
structure M2(X:Cx)(o:Expr)(m:Str)(apos:Pos)(e f:Expr)(cpos:Pos):Prop where
 base:attributeBase o m X.env (eval o X.env)=eval o X.env
 few:((backTo cpos (starEach [e,f] X.env)).all (fun x=>!x.1)&&(backToKw cpos (keywordEach [] X.env)).all (fun x=>x.1.isSome)
  &&decide (([e,f]:List Expr).length+([]:List Keyword).length+(if([]:List Keyword).isEmpty then 0 else 1)<30))=true
 line:(apos.endLine==cpos.line)=true
 trees:backTo cpos (starEach [e,f] X.env)=[(false,eval e X.env),(false,eval f X.env)]
noncomputable def IsD(H:Hp)(a:Addr):Prop:=(∃kvs,RdK H a kvs)∨∃kvs,RdT H a kvs
section
variable{X:Cx}{pins:List (Addr×Obj)}{σ:St}{H:Hp}{s:Shared}{a:Addr}{y d:V}{u r:Value}{o:Option V}{A:Around}{E:Value→Shared→Prop}
theorem Zrx{Q:Value→Shared→Prop}(hu:A.units+1<cLine)(I:Inv X pins σ H s)(g:DGet H a y o)(ry:RelV y u)(h:∀w' s',Inv X pins σ H s'→RelV (o.getD .non) w'→Q w' s'):
  wpAny (model X.prog X.w) A (call (.builtin "dict.get") [.ref a,u]) Q E s:=by
 rcases g with⟨kvs,k,e,ey,l⟩|⟨kvs,k,b,e,ey,eb,l⟩
 ·subst ey
  obtain⟨z,hd,vs,rel,dd⟩:=Zjz I.hok e
  refine call_meetsIn PySem.F.slot_dict_get dd.typeIs PySem.F.entry_dict_get (PySem.F.args_dict_get_2 _ _) (meets_dict_get (Zy X.prog X.w) a (Zjy ry) hd) ⟨_,dd.mapOf,h _ _ (I.tok _) ?_⟩
  rw[l]
  exact(rel.val k).getD rfl
 ·subst ey
  cases(show u=Value.ref b from ry)
  obtain⟨z,hd,xs,rel,dd⟩:=Zj0 I.hok e
  refine call_meetsIn PySem.F.slot_dict_get dd.typeIs PySem.F.entry_dict_get (PySem.F.args_dict_get_2 _ _) (meetsH_dict_get (tupleKind (Zy X.prog X.w)) a b hd) ⟨tupleKind_room_in1 hu,k,xs,Zfj I.hok eb,dd,h _ _ (I.tok _) ?_⟩
  rw[l]
  exact(rel.val k).getD rfl
theorem Zry{Q:Value→Shared→Prop}(hu:A.units+1<cLine)(I:Inv X pins σ H s)(g:DGet H a y o)(ry:RelV y u)(rd:RelV d r)(h:∀w' s',Inv X pins σ H s'→RelV (o.getD d) w'→Q w' s'):
  wpAny (model X.prog X.w) A (call (.builtin "dict.get") [.ref a,u,r]) Q E s:=by
 rcases g with⟨kvs,k,e,ey,l⟩|⟨kvs,k,b,e,ey,eb,l⟩
 ·subst ey
  obtain⟨z,hd,vs,rel,dd⟩:=Zjz I.hok e
  refine call_meetsIn PySem.F.slot_dict_get dd.typeIs PySem.F.entry_dict_get (PySem.F.args_dict_get_3 _ _ _) (meets_dict_get_default (Zy X.prog X.w) a (Zjy ry) hd r) ⟨_,dd.mapOf,h _ _ (I.tok _) ?_⟩
  rw[l]
  exact(rel.val k).getD rd
 ·subst ey
  cases(show u=Value.ref b from ry)
  obtain⟨z,hd,xs,rel,dd⟩:=Zj0 I.hok e
  refine call_meetsIn PySem.F.slot_dict_get dd.typeIs PySem.F.entry_dict_get (PySem.F.args_dict_get_3 _ _ _) (meetsH_dict_get_default (tupleKind (Zy X.prog X.w)) a b hd r) ⟨tupleKind_room_in1 hu,k,xs,Zfj I.hok eb,dd,h _ _ (I.tok _) ?_⟩
  rw[l]
  exact(rel.val k).getD rd
end
noncomputable def Zxj(td ty:TE):TE:=fun σ H Q=>td σ H fun x H1=>∃a,x= .ref a∧IsD H1 a∧ty σ H1 fun y H2=>∃o,DGet H2 a y o∧Q (o.getD .non) H2
noncomputable def Zxk(td ty tx:TE):TE:=fun σ H Q=>td σ H fun x H1=>∃a,x= .ref a∧IsD H1 a∧ty σ H1 fun y H2=>tx σ H2 fun z H3=>∃o,DGet H3 a y o∧Q (o.getD z) H3
noncomputable def Zxl(td ty:TE):TE:=fun σ H Q=>td σ H fun x H1=>∃a,x= .ref a∧IsD H1 a∧ty σ H1 fun y H2=>∃kvs k v,HK H2 a kvs∧y=kV k∧valV kvs k=some v∧∀ep,Q v (upd H2 a (.dK (Zo1 kvs k) ep))
noncomputable def Zxm(td ty tx:TE):TE:=fun σ H Q=>td σ H fun x H1=>∃a,x= .ref a∧IsD H1 a∧ty σ H1 fun y H2=>tx σ H2 fun z H3=>∃kvs k,HK H3 a kvs∧y=kV k∧
 (∀v ep,valV kvs k=some v→Q v (upd H3 a (.dK (Zo1 kvs k) ep)))∧(valV kvs k=none→Q z H3)
section
variable{X:Cx}{o e f:Expr}{apos cpos:Pos}{td ty tx:TE}
end
section
variable{X:Cx}{pins:List (Addr×Obj)}{σ:St}{H:Hp}{s:Shared}{a:Addr}{kvs:List (Key×V)}{A:Around}{E:Value→Shared→Prop}
end
section
variable{X:Cx}{pins:List (Addr×Obj)}{σ:St}{H:Hp}{s:Shared}{a:Addr}{y:V}{u:Value}{A:Around}{E:Value→Shared→Prop}
end
end L2
namespace Att
open PySem PySem.W PySem.Calls PyProof.Rows
theorem Zc8{P:Params}{h:Heap}:∀(ns:List Int) (vs:List Value),WellAll P h vs (ns.map WData.int)→IntsAre vs ns:=by
 intro ns
 induction ns with
 |nil=>
  intro vs w
  rw[List.map_nil]at w
  cases w
  exact .nil
 |cons n ns ih=>
  intro vs w
  rw[List.map_cons]at w
  cases w with
  |cons a b=>
   cases a
   exact .cons _ _ (ih _ b)
theorem Zj4{l:OpenLaw}{n:Nat}(hn:l.most=some n){P:Params}{h:Heap}{args:List WData}{vals:List Value}
  (hpre:l.row.toRowW.claim.pre args=true) (hwl:WellAll P h vals args):
  ∃a vs ns,vals=[Value.ref a]∧args=[WData.list (ns.map WData.int)]∧h.get? a=some {cls:=.type "list",data:=.seq vs.toArray}∧IntsAre vs ns∧ns.length≤n:=by
 have hsh:WShape.hasAll [] args [.list .int]=true:=(pre_splitW hpre).1
 have hc:l.pre.holds [] {args:=args}=true:=(pre_splitW hpre).2
 obtain⟨d,r,rfl,h1,h2⟩:=hasAllW_cons hsh
 obtain rfl:=hasAllW_nil h2
 obtain⟨xs,rfl,h3⟩:=hasW_list h1
 obtain⟨ns,rfl⟩:=items_int h3
 have hlen:ns.length≤n:=by
  unfold OpenLaw.pre at hc
  have h4:(WTm.not (.lt (.lit (.int (n:Int))) (.len (.arg 0)))).holds [] {args:=[.list (ns.map .int)]}=true:=by
   have h4:=(holds_andW hc).1
   rw[hn]at h4
   exact h4
  have h5:=condW_of h4 (w_not (w_lt w_lit (w_len_list (w_arg rfl))))
  rw[List.length_map]at h5
  refine Nat.le_of_not_lt fun q=>?_
  have q':(n:Int)<((ns.length:Nat):Int):=by omega
  first
   | (rw[decide_eq_true q']at h5;exact absurd h5 (by decide))
   | (simp at h5;omega)
 cases hwl with
 |cons w1 w2=>
  cases w2
  cases w1 with
  |list ho hall=>exact⟨_,_,ns,rfl,rfl,ho,Zc8 ns _ hall,hlen⟩
theorem Zj5(l:OpenLaw)(args:List WData):l.row.toRowW.claim.post args (.bool true) args=true:=
 postW_of (r:=l.row.toRowW) (X:=(true==true))
  (show WShape.has [] (.bool true) .bool=true by first|rfl|decide|simp[WShape.has,WShape.arms,WShape.armsAll])
  (show(WTm.eq .res (.lit (.bool true))).value [] {args:=args,res:=some (.bool true),after:=args}=some (.bool (true==true))from w_eq_bool (w_res rfl) w_lit) rfl
theorem attach_call{l:OpenLaw}{n:Nat}{q:Program}{loose:List Str}{XP:(Str→Option Value)→Heap→Prop}{YP:World→Heap→Prop}{d:DefRec}
  (hn:l.most=some n) (hdf:d.params.defaults=[])
  (call:∀(w:World) (s₀ s₁:Shared) (mg mb:Str→Option Value) (fa:Addr) (o:Obj) (pm cd doc:Value) (a:Addr) (vs:List Value) (ns:List Int),
   Ground q loose [] XP w s₀ mg mb s₁.heap→YP w s₁.heap→
   s₁.heap.get? fa=some o→o.data= .func (docDef d.name d.params d.body d.scope pm cd doc)→s₁.heap.CodeRec cd d.name→mg d.name=some (.ref fa)→
   s₁.heap.get? a=some {cls:=.type "list",data:=.seq vs.toArray}→IntsAre vs ns→ns.length≤n→s₁.gens= #[]→
   codeAny (model l.prog w) callerA (.call (.ref fa) ⟨[.ref a],[]⟩) (fun r s'=>r= .ok (.ret (.bool true))∧OldK s₁.heap s'.heap∧s'.os=s₁.os∧AllBare s'.gens) s₁):
  WalkO q loose XP YP l.row.toRowW d [] (fun f vs=>PySem.call f vs):=by
 intro w s₀ s₁ mg mb G Y fa o pm cd doc dV kV ho hd hcd hD hmg hg args vals as hpre hlay hrd hwl hlo
 obtain rfl:dV= .none:=Dflts.none hD hdf
 obtain rfl:kV= .none:=Dflts.noKw hD
 obtain⟨a,vs,ns,rfl,rfl,hobj,hints,hlen⟩:=Zj4 hn hpre hwl
 refine enter_call (codeAny_mono (call w s₀ s₁ mg mb fa o pm cd doc a vs ns G Y ho (fd_plain hd) hcd hmg hobj hints hlen hg) fun r s' hq=>?_)
 obtain⟨rfl,h2,h3,h4⟩:=hq
 exact⟨.inl ⟨.bool true,.bool true,[],rfl,fun _=>rfl,.bool true,Zj5 l _,fun _=>⟨List.Pairwise.nil,fun _ hm=>(nomatch hm)⟩⟩,h2,h3,h4⟩
section
variable{prog:Program}{w:World}{A:Around}{E:Value→Shared→Prop}{s:Shared}{K:Frag}
noncomputable def Zxn(h:Heap):Heap:={h with objs:= #[]}
noncomputable def Zxo(h:Heap)(L d:Addr):List (Addr×Obj):=(List.range h.objs.size).filterMap fun a=>if a=L∨a=d then none else(h.get? a).map fun o=>(a,o)
end
end Att
namespace L2
open PySem PySem.Spec PyProof.Rows
theorem Zfk:∀{vs:List Value} {ns:List Int},IntsAre vs ns→Vals (ns.map V.int) vs
 |_,_,.nil=>.nil
 |_,_,.cons n t h=>.cons ⟨t,rfl⟩ (Zfk h)
noncomputable def Only(H:Hp):Prop:=∀b,H b=none∨∃o xs,H b=some (.frz o (.lst xs))
end L2
namespace L2
open PySem PySem.Spec PyProof.Rows
noncomputable abbrev KOf{K:PySem.W.Frag}{h:Heap}(_:K.In h):PySem.W.Frag:=K
end L2
namespace L2
open PySem PySem.Spec PyProof.Rows
noncomputable def Zu7(s:Stmt)(j:Nat):Stmt:=match s with
 | .ClassDef _ _ _ body _ _ _ _ _ _ _=>body.getD j (.Pass ⟨0,0,0,0⟩)
 |_=>.Pass ⟨0,0,0,0⟩
noncomputable def Za9(s:Stmt):Arguments:=match s with
 | .FunctionDef _ a _ _ _ _ _ _ _ _=>a
 |_=>{posonlyargs:=[],args:=[],vararg:=none,kwonlyargs:=[],kw_defaults:=[],kwarg:=none,defaults:=[]}
noncomputable def Zae(s:Stmt):List Stmt:=match s with
 | .FunctionDef _ _ b _ _ _ _ _ _ _=>b
 |_=>[]
noncomputable def Zh(s:Stmt):Scope:=match s with
 | .FunctionDef _ _ _ _ _ _ sc _ _ _=>sc
 |_=>{kind:=.function,names:=[],isGenerator:=false,isCoroutine:=false}
noncomputable abbrev CX0:CXT:=fun _ _ _ _ _ _=>False
noncomputable abbrev E0:XK:=fun _ _ _=>False
theorem Zrz{X:Cx}:Zjs CX0 X E0:=fun _ _ _ _ _ _ _ h=>h.elim
structure Fun(K:PySem.W.Frag)(x qual:Str)(st:Stmt)(f:Addr)(fd:FuncData):Prop where
 ex:∃(oc:Value) (od:Option Addr) (kV doc pm:Value) (an:Option Addr) (cdv ct:Value) (osl:Array (Option Value)),
  fd=PySem.W.fnOf x qual (Za9 st) (Zae st) (Zh st) .none kV doc pm an cdv ct∧K.lookup f=some ⟨oc,od,.func fd,osl⟩∧PySem.W.codeIn K cdv qual=true
 kp:PySem.W.keepIn K (.ref f)=true
section
variable{P:Program}{w:World}{K:PySem.W.Frag}{mg:Str→Option Value}{base:Heap}
theorem Fun.ok{x qual:Str}{st:Stmt}{f:Addr}{fd:FuncData}{N ps:List Str}{k:Nat}{sp:Sp}(F:Fun K x qual st f fd)(S:FnScope N ps (Zh st))(len:∀vs H Q E,sp vs H Q E→vs.length=ps.length)
  (hbody:∀(cdv:Value) (A:Around) (outer:List Env) (s:Shared) (H:Hp) (vs:List V) (Q:VK) (E:XK),Room k (A.deeper (envOfC qual (Zh st) s.heap.objs.size f cdv))→sp vs H Q E→
   ∃t,PSs (cxOf CX0 P w K mg base N qual (Zh st) f cdv A outer s H E).nox (Zae st) t∧t {nx:=fun _ H'=>Q .non H',rt:=Q} (Zcj N vs) H):FnOk P w K mg base CX0 (k+1) f fd ps sp:=by
 obtain⟨oc,od,kV,doc,pm,an,cdv,ct,osl,rfl,lk,hcd⟩:=F.ex
 refine Zrl lk hcd S len fun A outer s H vs Q E hr hsp=>?_
 obtain⟨t,h,q⟩:=hbody cdv A outer s H vs Q E hr hsp
 exact⟨t,h.nox,q⟩
theorem Fun.binds{x qual:Str}{st:Stmt}{f:Addr}{fd:FuncData}{ps:List Str}(F:Fun K x qual st f fd)
  (h:∀(kV doc pm:Value) (an:Option Addr) (cdv ct:Value) (us:List Value),us.length=ps.length→bindArgs (PySem.W.fnOf x qual (Za9 st) (Zae st) (Zh st) .none kV doc pm an cdv ct) ⟨us,[]⟩=pure (ps.zip us)):Zbe K fd ps []:=by
 obtain⟨oc,od,kV,doc,pm,an,cdv,ct,osl,rfl,lk,hcd⟩:=F.ex
 exact .all (h kV doc pm an cdv ct)
theorem Zcw{x qual:Str}{st:Stmt}{f:Addr}{oc:Value}{od an:Option Addr}{osl:Array (Option Value)}{kV doc pm cdv ct:Value}(l:K.lookup f=some ⟨oc,od,.func (PySem.W.fnOf x qual (Za9 st) (Zae st) (Zh st) .none kV doc pm an cdv ct),osl⟩)
  (c:PySem.W.codeIn K cdv qual=true) (k:PySem.W.keepIn K (.ref f)=true):Fun K x qual st f (PySem.W.fnOf x qual (Za9 st) (Zae st) (Zh st) .none kV doc pm an cdv ct):=⟨⟨oc,od,kV,doc,pm,an,cdv,ct,osl,rfl,l,c⟩,k⟩
end
theorem Zo5{A:Around}{k:Nat}(hr:Room k A):A.units+1<cLine:=Nat.lt_of_le_of_lt (Nat.add_le_add_left (by decide:1≤64) _) hr.units
section
variable{X:Cx}
end
noncomputable def Same(H H':Hp):Prop:=∀b o,H b=some o→H' b=some o
theorem Same.refl(H:Hp):Same H H:=fun _ _ h=>h
theorem Same.trans{H H1 H2:Hp}(a:Same H H1)(b:Same H1 H2):Same H H2:=fun c o h=>b c o (a c o h)
theorem Same.free{H H':Hp}(e:Same H H'){l:Addr}(h:H' l=Option.none):H l=Option.none:=by
 cases q:H l with
 |none=>rfl
 |some o=>
  rw[e l o q]at h
  cases h
section
variable{κ:Type}[DecidableEq κ]
end
end L2
namespace L2
open PySem PySem.Spec PyProof.Rows
theorem PE.imp{X:Cx}{e:Expr}{t t':TE}(h:PE X e t)(w:∀σ H Q,t' σ H Q→t σ H Q):PE X e t':=fun pins s σ H Q I q=>h pins s σ H Q I (w σ H Q q)
theorem PT.imp{X:Cx}{e:Expr}{t t':TT}(h:PT X e t)(w:∀σ H Q,t' σ H Q→t σ H Q):PT X e t':=fun pins s σ H Q I q=>h pins s σ H Q I (w σ H Q q)
theorem PW.imp{X:Cx}{e:Expr}{t t':TT}(h:PW X e t)(w:∀σ H Q,t' σ H Q→t σ H Q):PW X e t':=fun wh pins s σ H Q I q=>h wh pins s σ H Q I (w σ H Q q)
theorem PA.imp{X:Cx}{e:List Expr}{t t':TA}(h:PA X e t)(w:∀σ H Q,t' σ H Q→t σ H Q):PA X e t':=fun pos pins s σ H Q I q=>h pos pins s σ H Q I (w σ H Q q)
theorem PS.imp{X:Cx}{e:Stmt}{t t':TS}(h:PS X e t)(w:∀D σ H,t' D σ H→t D σ H):PS X e t':=fun pins s σ H D I q=>h pins s σ H D I (w D σ H q)
theorem PSs.imp{X:Cx}{e:List Stmt}{t t':TS}(h:PSs X e t)(w:∀D σ H,t' D σ H→t D σ H):PSs X e t':=fun pins s σ H D I q=>h pins s σ H D I (w D σ H q)
theorem PG.imp{X:Cx}{e:Expr}{t t':TG}(h:PG X e t)(w:∀v σ H Q,t' v σ H Q→t v σ H Q):PG X e t':=fun pins s σ H v u Q I r q=>h pins s σ H v u Q I r (w v σ H Q q)
theorem PGs.imp{X:Cx}{e:List Expr}{t t':TGs}(h:PGs X e t)(w:∀v σ H Q,t' v σ H Q→t v σ H Q):PGs X e t':=fun pins s σ H vs us Q I r q=>h pins s σ H vs us Q I r (w vs σ H Q q)
theorem PI.imp{X:Cx}{tg e:Expr}{t t':TI}(h:PI X tg e t)(w:∀σ H R,t' σ H R→t σ H R):PI X tg e t':=fun pins s σ H R I q=>h pins s σ H R I (w σ H R q)
noncomputable def clOf(cells:List (Str×Addr)):List (Str×NameKind)→List (Str×Addr)→List (Str×Addr)
 | [],cs=>cs
 | (n,k)::r,cs=>clOf cells r (if k= .free then(n,(cells.lookup n).getD 0)::cs else cs)
theorem Zck{env:Env}:∀(names:List (Str×NameKind)) (cs:List (Str×Addr)),(∀y∈names,y.2= .free→∃c,env.cells.lookup y.1=some c)→
    (forIn names cs (fun x r=>if(x.2==NameKind.free)=true then do let a←cellOf env x.1;pure (ForInStep.yield ((x.1,a)::r))else pure (ForInStep.yield r)):Sem (List (Str×Addr)))=pure (clOf env.cells names cs)
  | [],cs,_=>by rw[List.forIn_nil];rfl
  | (n,k)::r,cs,h=>by
    rw[List.forIn_cons]
    by_cases hk:k= .free
    · obtain⟨c,hc⟩:=h (n,k) List.mem_cons_self hk
      subst hk
      have e1:cellOf env n=pure c:=by unfold cellOf;rw[hc]
      show((if(NameKind.free==NameKind.free)=true then(cellOf env n >>=fun a=>pure (ForInStep.yield ((n,a)::cs)))else pure (ForInStep.yield cs)) >>=fun s=>_)=_
      rw[if_pos (show(NameKind.free==NameKind.free)=true by decide),e1]
      show(forIn r ((n,c)::cs) _:Sem (List (Str×Addr)))=_
      rw[Zck r _ fun y hy=>h y (List.mem_cons_of_mem _ hy)]
      show _=pure (clOf env.cells r (if NameKind.free=NameKind.free then(n,(env.cells.lookup n).getD 0)::cs else cs))
      rw[if_pos rfl,hc]
      rfl
    · have hb:(k==NameKind.free)=false:=by simpa using hk
      show((if(k==NameKind.free)=true then(cellOf env n >>=fun a=>pure (ForInStep.yield ((n,a)::cs)))else pure (ForInStep.yield cs)) >>=fun s=>_)=_
      rw[hb,if_neg Bool.false_ne_true]
      show(forIn r cs _:Sem (List (Str×Addr)))=_
      rw[Zck r _ fun y hy=>h y (List.mem_cons_of_mem _ hy)]
      show _=pure (clOf env.cells r (if k=NameKind.free then _ else cs))
      rw[if_neg hk]
theorem Zb5{scope:Scope}{env:Env}(h:∀y∈scope.names,y.2= .free→∃c,env.cells.lookup y.1=some c):closureFor scope env=pure (clOf env.cells scope.names []):=by
 simp only[closureFor]
 rw[Zck scope.names [] h]
 rfl
theorem Zht{cells:List (Str×Addr)}{x:Str}{c:Addr}:∀{names:List (Str×NameKind)} {cs:List (Str×Addr)},(∀y∈names,y.2= .free→∃c,cells.lookup y.1=some c)→
    (cs.lookup x=some c→cells.lookup x=some c)→(clOf cells names cs).lookup x=some c→cells.lookup x=some c
  | [],_,_,h0,e=>h0 e
  | (n,k)::r,cs,h,h0,e=>by
    refine Zht (names:=r) (fun y hy=>h y (List.mem_cons_of_mem _ hy)) ?_ e
    intro e'
    by_cases hk:k= .free
    · rw[if_pos hk]at e'
      obtain⟨c',hc⟩:=h (n,k) List.mem_cons_self hk
      rw[hc]at e'
      by_cases hx:x==n
      · simp only[List.lookup_cons,hx]at e'
        cases e'
        have:x=n:=by simpa using hx
        rw[this];exact hc
      · have hx':(x==n)=false:=by simpa using hx
        simp only[List.lookup_cons,hx']at e'
        exact h0 e'
    · rw[if_neg hk]at e';exact h0 e'
theorem Zfl{cells:List (Str×Addr)}{x:Str}:∀{names:List (Str×NameKind)} {cs:List (Str×Addr)},(∃c,cs.lookup x=some c)→∃c,(clOf cells names cs).lookup x=some c
  | [],_,h=>h
  | (n,k)::r,cs,⟨c,h⟩=>by
    refine Zfl (names:=r) ?_
    by_cases hk:k= .free
    · rw[if_pos hk]
      by_cases hx:x==n
      · exact⟨(cells.lookup n).getD 0,by simp only[List.lookup_cons,hx]⟩
      · have hx':(x==n)=false:=by simpa using hx
        exact⟨c,by simp only[List.lookup_cons,hx'];exact h⟩
    · rw[if_neg hk];exact⟨c,h⟩
theorem Zc1{cells:List (Str×Addr)}{x:Str}:∀{names:List (Str×NameKind)} {cs:List (Str×Addr)},(x,NameKind.free)∈names→∃c,(clOf cells names cs).lookup x=some c
  | [],_,h=>nomatch h
  | (n,k)::r,cs,h=>by
    rcases List.mem_cons.mp h with e|e
    · cases e
      refine Zfl (names:=r) ⟨(cells.lookup x).getD 0,?_⟩
      rw[if_pos rfl]
      simp[List.lookup_cons]
    · exact Zc1 (names:=r) e
noncomputable def rlF(env:Env):Str×NameKind→Str×NameKind:=fun(n,k)=>if(k==NameKind.free&&env.scope.kind== .function&&env.kindOf n==some .cell)then(n,NameKind.cell)else(n,k)
theorem Zgv(env:Env)(p:Str×NameKind):(rlF env p).1=p.1:=by
 obtain⟨n,k⟩:=p
 unfold rlF
 dsimp only
 split<;> rfl
theorem Zba{f:Str×NameKind→Str×NameKind}(h:∀p,(f p).1=p.1)(x:Str):∀names:List (Str×NameKind),(names.map f).lookup x=(names.lookup x).map fun k=>(f (x,k)).2
  | []=>rfl
  | (n,k)::r=>by
    have ih:=Zba h x r
    have e:f (n,k)=(n,(f (n,k)).2):=Prod.ext (h (n,k)) rfl
    rw[List.map_cons,e,List.lookup_cons,List.lookup_cons]
    cases hx:x==n with
    |true=>
      have:x=n:=by simpa using hx
      subst this
      rfl
    |false=>exact ih
theorem Zd1{x:Str}{k:NameKind}:∀{names:List (Str×NameKind)},names.lookup x=some k→(x,k)∈names
  | [],h=>by simp at h
  | (n,k')::r,h=>by
    rw[List.lookup_cons]at h
    cases hx:x==n with
    |true=>
      rw[hx]at h
      have:x=n:=by simpa using hx
      subst this
      cases h
      exact List.mem_cons_self
    |false=>rw[hx]at h;exact List.mem_cons_of_mem _ (Zd1 h)
theorem Zbf{env:Env}{names:List (Str×NameKind)}{x:Str}{kk:NameKind}(hn:∀y∈names,y.2≠.cell)(hk:kk= .cell∨kk= .free)(h:(names.map (rlF env)).lookup x=some kk):(x,NameKind.free)∈names:=by
 rw[Zba (Zgv env)]at h
 obtain⟨k,h1,h2⟩:=Option.map_eq_some_iff.mp h
 have hm:=Zd1 h1
 have hc:k≠.cell:=hn _ hm
 by_cases hf:k= .free
 ·subst hf;exact hm
 ·exfalso
  have hb:(k==NameKind.free)=false:=by simpa using hf
  unfold rlF at h2
  simp only[hb,Bool.false_and,Bool.false_eq_true,if_false]at h2
  rcases hk with e|e
  ·exact hc (h2.trans e)
  ·exact hf (h2.trans e)
inductive BSrc where
 |own|cap (j:Nat)|acc
noncomputable def Zr0(σ:St)(acc:Addr):BSrc→Option V
 | .own=>none
 | .cap j=>(σ[j]?).join
 | .acc=>some (.ref acc)
noncomputable def bSt(src:List BSrc)(σ:St)(acc:Addr):St:=src.map (Zr0 σ acc)
noncomputable abbrev Cx.block(X:Cx)(N':List Str)(scope:Scope)(C:Addr)(s₀:Shared)(H₀:Hp)(ex:List Addr):Cx:=
 {X with N:=N',env:=compEnvC scope (clOf X.env.cells scope.names []) C X.env,s₀:=s₀,H₀:=H₀,outer:=X.stack,stack:=X.stack,ex:=ex,fn:=fun _=>false,pn:=[],xe:=fun _ _=>False}
structure CompScope(X:Cx)(N':List Str)(scope:Scope)(src:List BSrc):Prop where
 kind:scope.kind= .function
 nocell:∀y∈scope.names,y.2≠.cell
 names:∀y∈scope.names,y.2= .local→scope.names.lookup y.1=some .local
 free:∀y∈scope.names,y.2= .free→X.env.kindOf y.1=some .cell∨X.env.kindOf y.1=some .free
 len:src.length=N'.length
 cap:∀(k j:Nat) (x:Str),src[k]? =some (.cap j)→N'[k]? =some x→X.N[j]? =some x∧(X.env.kindOf x=some .cell∨X.env.kindOf x=some .free)∧scope.names.lookup x=some .free
 acc:∀(k:Nat) (x:Str),src[k]? =some .acc→N'[k]? =some x→scope.names.lookup x=none
theorem Zbw{env:Env}{names:List (Str×NameKind)}{x:Str}(h:names.lookup x=none):(names.map (rlF env)).lookup x=none:=by
 rw[Zba (Zgv env),h];rfl
theorem Zbx{env:Env}{names:List (Str×NameKind)}{x:Str}(h:names.lookup x=some .free):(names.map (rlF env)).lookup x=some .cell∨(names.map (rlF env)).lookup x=some .free:=by
 rw[Zba (Zgv env),h]
 unfold rlF
 dsimp only[Option.map]
 split
 ·exact .inl rfl
 ·exact .inr rfl
section
variable{X:Cx}{N':List Str}{scope:Scope}{src:List BSrc}{pins:List (Addr×Obj)}{σ:St}{H:Hp}{s:Shared}{C acc:Addr}{fp:List Addr}
theorem Zgw{h1:Heap}{tk:Nat}(S:CompScope X N' scope src)(I:Inv X pins σ H s)(hC:C=s.heap.objs.size)(hf:∀b∈fp,FpOk X pins H b)(hfo:∀b∈fp,∃o,s.heap.get? b=some o)
  (hns:h1.Ns C fun _=>none) (hk:∀b o,s.heap.get? b=some o→h1.get? b=some o):
  Inv (X.block N' scope C s H fp) [] (bSt src σ acc) H {s with heap:=h1,toks:=tk}:=by
 have cellf:∀y∈scope.names,y.2= .free→∃c,X.env.cells.lookup y.1=some c:=fun y hy e=>I.ok.has y.1 (S.free y hy e)
 have sub:∀x c,(clOf X.env.cells scope.names []).lookup x=some c→X.env.cells.lookup x=some c:=fun x c e=>Zht cellf (fun h=>by simp at h) e
 have gt:∀b,b<s.heap.objs.size→b≠C:=fun b hb e=>by rw[e,hC]at hb;exact Nat.lt_irrefl _ hb
 refine⟨⟨I.ok.mod,S.kind,I.ok.glob,I.ok.blt,by rw[hC];exact Nat.le_refl _,fun x y c h1 h2=>I.ok.inj x y c (sub x c h1) (sub y c h2),fun x hx=>?_,fun x c h=>absurd h Bool.false_ne_true,I.ok.hd,I.ok.frames,.inl rfl,fun b hb=>?_,I.bs,
  Nat.le_trans I.ok.bsz I.sz,fun b o e hb=>?_,fun b hb hs=>?_,I.stack,I.stkFree⟩,rfl,I.bare,Un.kept hk,⟨_,hns,fun i x v e1 e2 e3=>?_⟩,fun x c e=>?_,?_,fun x c e=>I.freeC x c (sub x c e),fun p hp=>?_,I.hok.kept hk,?_⟩
 ·rcases hx with hx|hx
  ·exact Zc1 (Zbf S.nocell (.inl rfl) hx)
  ·exact Zc1 (Zbf S.nocell (.inr rfl) hx)
 ·obtain⟨f0,f1,f2,f3,f4,f5⟩:=hf b hb
  refine⟨?_,fun x c e=>f4 x c (sub x c e)⟩
  show b≠C
  obtain⟨o,ho⟩:=hfo b hb
  exact gt b (Heap.lt_size ho)
 ·obtain⟨f0,f1,f2,f3,f4,f5⟩:=hf b hb
  rcases f3 with z|z
  ·exact I.ok.noex b o e z
  ·exact absurd (Nat.lt_of_lt_of_le (Heap.lt_size e) (Nat.le_trans I.ok.bsz z)) (Nat.lt_irrefl _)
 ·obtain⟨f0,f1,f2,f3,f4,f5⟩:=hf b hb
  rcases List.mem_cons.mp (I.stkSub b hs)with z|z
  ·exact f1 z
  ·exact f2 z
 ·have hsrc:∃q,src[i]? =some q:=by
   cases q:src[i]? with
   |some q0=>exact⟨q0,rfl⟩
   |none=>
    have e2':(bSt src σ acc)[i]? =some (some v):=e2
    unfold bSt at e2'
    rw[List.getElem?_map,q]at e2';cases e2'
  obtain⟨q,hq⟩:=hsrc
  have e2':(bSt src σ acc)[i]? =some (some v):=e2
  unfold bSt at e2'
  rw[List.getElem?_map,hq]at e2'
  have e2'':Zr0 σ acc q=some v:=Option.some.inj e2'
  cases q with
  |own=>cases e2''
  |acc=>
   exfalso
   have hno:=Zbw (env:=X.env) (S.acc i x hq e1)
   have hno':(relabel scope X.env).names.lookup x=none:=hno
   have e3':Vis (relabel scope X.env) x:=e3
   rcases e3' with z|z|z
   ·rw[hno']at z;cases z
   ·rw[hno']at z;cases z
   ·rw[hno']at z;cases z
  |cap j=>
   obtain⟨hj,hkind,hfr⟩:=S.cap i j x hq e1
   have hσ:σ[j]? =some (some v):=by
    have e4:(σ[j]?).join=some v:=e2''
    cases r:σ[j]? with
    |none=>rw[r]at e4;cases e4
    |some o=>rw[r]at e4;cases o with
     |none=>cases e4
     |some w'=>cases e4;rfl
   obtain⟨m,hn,hl⟩:=I.loc
   obtain⟨u,ru,l⟩:=hl j x v hj hσ (by rcases hkind with z|z;exact .inr (.inl z);exact .inr (.inr z))
   refine⟨u,ru,?_⟩
   rcases l with⟨z,_⟩|⟨_,c,hc,hcell⟩
   ·rcases hkind with y|y
    ·rw[y]at z;cases z
    ·rw[y]at z;cases z
   ·have e3':Vis (relabel scope X.env) x:=e3
    have fin:∀kk,kk= .cell∨kk= .free→(relabel scope X.env).names.lookup x=some kk→Look (X.block N' scope C s H fp).env h1 (fun _=>none) x u:=fun kk hkk hx=>by
     obtain⟨c',hc'⟩:=Zc1 (cells:=X.env.cells) (cs:=[]) (Zbf S.nocell hkk hx)
     have:=sub x c' hc'
     rw[hc]at this;cases this
     obtain⟨oc,hoc,hocd⟩:=hcell
     refine .inr ⟨?_,c,hc',oc,hk c oc hoc,hocd⟩
     rcases hkk with y|y
     ·subst y;exact .inl hx
     ·subst y;exact .inr hx
    rcases e3' with z|z|z
    ·exfalso
     have z':(relabel scope X.env).names.lookup x=some .local:=z
     rcases Zbx (env:=X.env) hfr with y|y
     ·have y':(relabel scope X.env).names.lookup x=some .cell:=y
      rw[z']at y';cases y'
     ·have y':(relabel scope X.env).names.lookup x=some .free:=y
      rw[z']at y';cases y'
    ·exact fin .cell (.inl rfl) z
    ·exact fin .free (.inr rfl) z
 ·obtain⟨v,oc,hoc,hocd⟩:=I.cell x c (sub x c e)
  exact⟨v,oc,hk c oc hoc,hocd⟩
 ·show H C=none
  rw[hC];exact I.hok.fresh (Nat.le_refl _)
 ·have hp':p∈([]:List (Addr×Obj)):=by simpa using hp
  exact nomatch hp'
 ·show(bSt src σ acc).length=N'.length
  unfold bSt
  rw[List.length_map];exact S.len
noncomputable def Zo6(src:List BSrc)(wi:TI)(g:TG)(tt:TT)(te:TE):TE:=fun σ H Q=>wi σ H fun J H1=>∀acc,H1 acc=none→
 ∃W:Nat→Nat→St→Hp→Prop,(∃m,W 0 m (bSt src σ acc) (upd H1 acc (.lst [])))∧∀i m σ' H,W i m σ' H→(J.stop i H∧Q (.ref acc) H)∨
  (J.go i H∧∀x H',J.yld i H x H'→g x σ' H' fun σ2 H2=>tt σ2 H2 fun b H3=>if b=true then te σ2 H3 fun y H4=>Zc6 (.ref acc) [y] H4 fun _ H5=>∃m',m'<m∧W (i+1) m' σ2 H5 else∃m',m'<m∧W (i+1) m' σ2 H3)
noncomputable def PTs(X:Cx)(ifs:List Expr)(t:TT):Prop:=
 ∀(pins:List (Addr×Obj)) (s:Shared) (σ:St) (H:Hp) (Q:Bool→Hp→Prop),Inv X pins σ H s→t σ H Q→
  wpAny (model X.prog X.w) X.A (forIn ifs true fun c r=>if r=true then do let ok←isTrue c X.env (eval c X.env);pure (ForInStep.yield ok)else pure (ForInStep.yield r)) (TP X pins σ Q) X.xe s
noncomputable def Zu8:TT:=fun _ H Q=>Q true H
theorem Zo7:PTs X [] Zu8:=fun _ s σ H Q I h=>wpAny_tests_nil ⟨H,I,h⟩
theorem Zo8{c:Expr}{t:TT}(h:PT X c t):PTs X [c] t:=fun pins s σ H Q I q=>wpAny_tests_one (h pins s σ H Q I q)
theorem Zj6{prog:Program}{w:World}{A:Around}{s:Shared}{elt target iter:Expr}{ifs:List Expr}{scope:Scope}{pos:Pos}{it acc:Value}{env:Env}{R:Result→Shared→Prop}(I:Nat→Shared→Prop)
  (turn:∀n s,I n s→wpAny (model prog w) A (pyNext it) (fun r s₁=>match r with
   |none=>R (.ok .next) s₁
   |some v=>wpAny (model prog w) A (letOwnedTupleGo target it v) (fun _ s₀=>wpAny (model prog w) A (assign target env v) (fun _ s₂=>
     wpAny (model prog w) A (forIn ifs true fun c r=>if r=true then do let ok←isTrue c env (eval c env);pure (ForInStep.yield ok)else pure (ForInStep.yield r)) (fun ok s₃=>if ok=true then wpAny (model prog w) A (eval elt env) (fun x s₄=>
      wpAny (model prog w) A (call (.builtin "list.append") [acc,x]) (fun _ s₅=>∃m,m<n∧I m s₅) (fun _ _=>False) s₄) (fun _ _=>False) s₃
      else∃m,m<n∧I m s₃) (fun _ _=>False) s₂)
     (fun _ _=>False) s₀) (fun _ _=>False) s₁) (fun _ _=>False) s)
  (n:Nat) (h:I n s):codeAny (model prog w) A (.compLoop (.ListComp elt [⟨target,iter,ifs,0⟩] scope pos) 0 it acc env) R s:=by
 refine codeAny_loop rfl I (fun n s hI=>?_) n h
 show wpAny _ A ((compTurn (.ListComp elt [⟨target,iter,ifs,0⟩] scope pos) 0 it acc env).onRaise (fun x=>do noteFrame x env;theTreesLotGoes x)) _ _ s
 refine wpAny_noted ?_
 rw[compTurn_list]
 refine wpAny_bind (wpAny_standAt (wpAny_bind (wpAny_mono (turn n s hI) (fun r s₁ h₁=>?_) fun _ _ f=>f.elim)))
 cases r with
 |none=>exact wpAny_pure h₁
 |some v=>
  refine wpAny_bind (wpAny_mono h₁ (fun _ s₀ h₀'=>?_) fun _ _ f=>f.elim)
  refine wpAny_bind (wpAny_mono h₀' (fun _ s₂ h₂=>?_) fun _ _ f=>f.elim)
  refine wpAny_bind (wpAny_mono h₂ (fun okb s₃ h₃=>?_) fun _ _ f=>f.elim)
  cases okb with
  |false=>exact wpAny_pure ⟨rfl,h₃⟩
  |true=>exact wpAny_bind (wpAny_bind (wpAny_mono h₃ (fun x s₄ h₄=>wpAny_bind (wpAny_mono h₄ (fun _ s₅ h₅=>wpAny_pure (wpAny_pure ⟨rfl,h₅⟩)) fun _ _ f=>f.elim)) fun _ _ f=>f.elim))
theorem Zd2{tg elt iter:Expr}{ifs:List Expr}{pos:Pos}{g:TG}{tt:TT}{te:TE}{it:Addr}{tn:Nat→Heap→Prop}{J:It}{Q:VK}{RR:Value→Addr→Result→Shared→Prop}{E:Value→Shared→Prop}
  (hc:X.calm=true) (S:CompScope X N' scope src)
  (hg:∀(C:Addr) (s₀:Shared) (H₀:Hp) (ex:List Addr),PG (X.block N' scope C s₀ H₀ ex) tg g)
  (ht:∀(C:Addr) (s₀:Shared) (H₀:Hp) (ex:List Addr),PTs (X.block N' scope C s₀ H₀ ex) ifs tt)
  (he:∀(C:Addr) (s₀:Shared) (H₀:Hp) (ex:List Addr),PE (X.block N' scope C s₀ H₀ ex) elt te)
  (I:Inv X pins σ H s) (T:Turn X.prog X.w X.K tg J fp it tn) (st:tn 0 s.heap) (hf:∀b∈fp,FpOk X pins H b)
  (q:∀acc,H acc=none→∃W:Nat→Nat→St→Hp→Prop,(∃m,W 0 m (bSt src σ acc) (upd H acc (.lst [])))∧∀i m σ' H,W i m σ' H→(J.stop i H∧Q (.ref acc) H)∨
   (J.go i H∧∀x H',J.yld i H x H'→g x σ' H' fun σ2 H2=>tt σ2 H2 fun b H3=>if b=true then te σ2 H3 fun y H4=>Zc6 (.ref acc) [y] H4 fun _ H5=>∃m',m'<m∧W (i+1) m' σ2 H5 else∃m',m'<m∧W (i+1) m' σ2 H3))
  (hRR:∀(acc C:Addr) (s':Shared) (H':Hp) (m:Str→Option Value),Inv X pins σ H' s'→Q (.ref acc) H'→s'.heap.Ns C m→H' C=none→C≠X.env.locals→X.s₀.heap.objs.size≤C→(∀x c,X.env.cells.lookup x=some c→c≠C)→(∀p∈X.pn++pins,p.1≠C)→
   RR (.ref acc) C (.ok .next) s'):
  wpAny (model X.prog X.w) X.A (newList []) (fun acc s₃=>wpAny (model X.prog X.w) X.A (newFunctionEnv scope X.env.globals (clOf X.env.cells scope.names []) [] X.env.qual none .none (some X.env)) (fun cenv s₄=>
   codeAny (model X.prog X.w) X.A (.compStart (.ListComp elt [⟨tg,iter,ifs,0⟩] scope pos) 0 (.ref it) acc {cenv with scope:=relabel scope X.env}) (RR acc cenv.locals) s₄) E s₃) E s:=by
 have hfo:∀b∈fp,∃o,s.heap.get? b=some o:=fun b hb=>let⟨o,e,_⟩:=T.obj 0 _ st b hb;⟨o,e⟩
 refine wpAny_newObj_type (wpAny_newFunctionEnv S.nocell (by intro y hy;simp at hy) (fun h₁ hns₁ hsb₁=>?_) S.kind)
 dsimp only at hns₁ hsb₁⊢
 have hacc:H s.heap.objs.size=none:=I.hok.fresh (Nat.le_refl _)
 have I3:Inv X pins σ (upd H s.heap.objs.size (.lst [])) {s with heap:=s.heap.push {cls:=.type "list",dict:=none,data:=.seq ([]:List Value).toArray}}:=I.lnew (t':=s.toks) (its:=[]) (ys:=[]) .nil (Nat.zero_le _)
 have hf3:∀b∈fp,FpOk X pins (upd H s.heap.objs.size (.lst [])) b:=fun b hb=>by
  obtain⟨f0,f⟩:=hf b hb
  obtain⟨o,ho⟩:=hfo b hb
  exact⟨by rw[Zl (Nat.ne_of_lt (Heap.lt_size ho))];exact f0,f⟩
 have hfo3:∀b∈fp,∃o,(s.heap.push {cls:=.type "list",dict:=none,data:=.seq ([]:List Value).toArray}).get? b=some o:=fun b hb=>let⟨o,e⟩:=hfo b hb;⟨o,Heap.get?_push_of_some _ e⟩
 obtain⟨W,⟨m0,w0⟩,turn⟩:=q _ hacc
 generalize hH2:s.heap.push {cls:=.type "list",dict:=none,data:=.seq ([]:List Value).toArray}=H2 at hns₁ hsb₁ I3 hfo3⊢
 have keep:∀b o,H2.get? b=some o→h₁.get? b=some o:=fun b o e=>hsb₁.extBut b o (Nat.ne_of_lt (Heap.lt_size e)) (Heap.get?_push_of_some _ e)
 have J0:=Zgw (N':=N') (scope:=scope) (src:=src) (acc:=s.heap.objs.size) (tk:=s.toks+([]:List (Str×Value)).length) (C:=H2.objs.size) S I3 rfl hf3 hfo3 (show h₁.Ns H2.objs.size (fun _=>none)from hns₁) keep
 have st1:tn 0 h₁:=T.keep 0 s.heap h₁ st fun b hb o e=>keep b o (by rw[←hH2];exact Heap.get?_push_of_some _ e)
 have cne:H2.objs.size≠X.env.locals:=Nat.ne_of_gt I3.lt
 have csz:X.s₀.heap.objs.size≤H2.objs.size:=I3.sz
 have ccell:∀x c,X.env.cells.lookup x=some c→c≠H2.objs.size:=fun x c e z=>by
  obtain⟨v,oc,hoc,_⟩:=I3.cell x c e
  exact absurd (Heap.lt_size hoc) (by rw[z];exact Nat.lt_irrefl _)
 have cpin:∀p∈X.pn++pins,p.1≠H2.objs.size:=fun p hp z=>absurd (Heap.lt_size (I3.pin p hp).1) (by rw[z];exact Nat.lt_irrefl _)
 have loop:∀s₃:Shared,s₃={s with heap:=h₁,toks:=s.toks+([]:List (Str×Value)).length}→
   codeAny (model X.prog X.w) X.A (.compLoop (.ListComp elt [⟨tg,iter,ifs,0⟩] scope pos) 0 (.ref it) (.ref s.heap.objs.size) (compEnvC scope (clOf X.env.cells scope.names []) H2.objs.size X.env)) (RR (.ref s.heap.objs.size) H2.objs.size) s₃:=by
  rintro s₃ rfl
  refine Zj6 (fun n s'=>∃i σ' H',Inv (X.block N' scope H2.objs.size {s with heap:=H2} (upd H s.heap.objs.size (.lst [])) fp) [] σ' H' s'∧tn i s'.heap∧(∀b∈fp,H' b=none)∧W i n σ' H') ?_ m0 ⟨0,_,_,J0,st1,fun b hb=>(hf3 b hb).1,w0⟩
  rintro n s4 ⟨i,σ4,H4,J4,st4,fr4,w4⟩
  have fok:∀{H':Hp},(∀b∈fp,H' b=none)→∀b∈fp,FpOk (X.block N' scope H2.objs.size {s with heap:=H2} (upd H s.heap.objs.size (.lst [])) fp) [] H' b:=fun{H'} hn b hb=>by
   obtain⟨f0,f1,f2,f3,f4,f5⟩:=hf3 b hb
   refine⟨hn b hb,?_,fun z=>J4.ok.exfs b hb z,.inl hb,fun x c e=>(J4.ok.exf b hb).2 x c e,fun p hp=>?_⟩
   ·exact(J4.ok.exf b hb).1
   ·have hp':p∈([]:List (Addr×Obj)):=by simpa using hp
    exact nomatch hp'
  rcases turn i n σ4 H4 w4 with⟨stop,qn⟩|⟨go,step⟩
  ·refine thn (T.done (X.block N' scope H2.objs.size {s with heap:=H2} (upd H s.heap.objs.size (.lst [])) fp) rfl rfl rfl hc i [] s4 σ4 H4 _ J4 (fok fr4) st4 stop) fun r s5 ⟨hr,J5⟩=>?_
   subst hr
   obtain⟨m5,hn5,_⟩:=J5.loc
   have I5:Inv X pins σ H4 s5:=I3.call' (ch:=fp) J5.os J5.base J5.hok J5.bare fun b hb=>by
    obtain⟨f0,f1,f2,f3,f4,f5⟩:=hf3 b hb
    exact⟨f3,f1,f4,f5⟩
   exact hRR _ _ s5 H4 m5 I5 qn hn5 J5.free cne csz ccell cpin
  ·refine thn (T.item (X.block N' scope H2.objs.size {s with heap:=H2} (upd H s.heap.objs.size (.lst [])) fp) rfl rfl rfl hc i [] s4 σ4 H4 _ J4 (fok fr4) st4 go) fun r s5 ⟨u,hr,h5⟩=>?_
   subst hr
   refine thn h5 fun _ s6 zq9=>?_
   obtain⟨x,H6,J6,r6,y6,st6,fr6⟩:=zq9
   have J6':=J6.pinned (fok fr6) (T.obj _ _ st6)
   have again:∀{σ7:St} {H7:Hp} {s7:Shared},Inv (X.block N' scope H2.objs.size {s with heap:=H2} (upd H s.heap.objs.size (.lst [])) fp) ([]++Ze7 fp s6.heap) σ7 H7 s7→(∃m',m'<n∧W (i+1) m' σ7 H7)→
     ∃m,m<n∧∃i σ' H',Inv (X.block N' scope H2.objs.size {s with heap:=H2} (upd H s.heap.objs.size (.lst [])) fp) [] σ' H' s7∧tn i s7.heap∧(∀b∈fp,H' b=none)∧W i m σ' H':=fun{σ7 H7 s7} J7 ⟨m',hm,w7⟩=>by
    refine⟨m',hm,i+1,σ7,H7,J7.unpinned,T.keep _ _ _ st6 fun b hb o e=>(J7.pin (b,o) (List.mem_append_right _ (List.mem_append_right _ (Zbm hb e)))).1,fun b hb=>?_,w7⟩
    obtain⟨o,e,d⟩:=T.obj _ _ st6 b hb
    exact(J7.pin (b,o) (List.mem_append_right _ (List.mem_append_right _ (Zbm hb e)))).2.1
   refine thn (hg _ _ _ _ _ s6 σ4 H6 x u _ J6' r6 (step x H6 y6)) fun _ s7 zq9=>?_
   obtain⟨σ7,H7,J7,q7⟩:=zq9
   refine thn (ht _ _ _ _ _ s7 σ7 H7 _ J7 q7) fun b s8 zq9=>?_
   obtain⟨H8,J8,q8⟩:=zq9
   cases b with
   |false=>rw[if_neg Bool.false_ne_true]at q8⊢;exact again J8 q8
   |true=>
    rw[if_pos rfl]at q8⊢
    refine thn (he _ _ _ _ _ s8 σ7 H8 _ J8 q8) fun y s9 zq9=>?_
    obtain⟨vy,H9,J9,r9,q9⟩:=zq9
    refine thn (Zfh _ s9 σ7 H9 (.ref s.heap.objs.size) [vy] (.ref s.heap.objs.size) [y] _ J9 rfl (.cons r9 .nil) q9) fun _ s10 ⟨_,H10,J10,_,q10⟩=>again J10 q10
 exact codeAny_compStart_list (loop _ rfl) (T.self X.A 0 _ _ _ st1 (loop _ rfl))
theorem Zo9{tg elt iter:Expr}{ifs:List Expr}{pos:Pos}{wi:TI}{g:TG}{tt:TT}{te:TE}(hc:X.calm=true)(S:CompScope X N' scope src)(hi:PI X tg iter wi)
  (hg:∀(C:Addr) (s₀:Shared) (H₀:Hp) (ex:List Addr),PG (X.block N' scope C s₀ H₀ ex) tg g)
  (ht:∀(C:Addr) (s₀:Shared) (H₀:Hp) (ex:List Addr),PTs (X.block N' scope C s₀ H₀ ex) ifs tt)
  (he:∀(C:Addr) (s₀:Shared) (H₀:Hp) (ex:List Addr),PE (X.block N' scope C s₀ H₀ ex) elt te)
  (hs:∀x,foldedSetIterable iter X.env x=pure x:=by intro _;rfl):PE X (.ListComp elt [⟨tg,iter,ifs,0⟩] scope pos) (Zo6 src wi g tt te):=by
 intro pins s σ H Q I h
 rw[eval_ListComp]
 refine wpAny_comprehension_free (use:=none) rfl hs (Zb5 fun y hy e=>I.ok.has y.1 (S.free y hy e)) S.kind S.names (thn (hi pins s σ H _ I h) fun v s1 h1=>thn h1 fun itv s2 h2=>?_)
 obtain⟨it,fp,tn,J,H2,e,I2,T,st2,f2,q⟩:=h2
 subst e
 refine Zd2 hc S hg ht he I2 T st2 f2 q fun acc C s' H' m I' q' hn hC c1 c2 c3 c4=>⟨m,hn,fun h' hs'=>?_⟩
 exact⟨.ref acc,H',I'.turned (t':=s'.toks) (fun b o hb e=>(hs'.2 b hb).trans e) hC c1 (.inr c2) c3 c4,rfl,q'⟩
theorem Ziv{tg elt iter:Expr}{ifs:List Expr}{pos spos py:Pos}{wi:TI}{g:TG}{tt:TT}{te:TE}{i:Nat}{y:Str}(hc:X.calm=true)(S:CompScope X N' scope src)(hi:PI X tg iter wi)
  (hg:∀(C:Addr) (s₀:Shared) (H₀:Hp) (ex:List Addr),PG (X.block N' scope C s₀ H₀ ex) tg g)
  (ht:∀(C:Addr) (s₀:Shared) (H₀:Hp) (ex:List Addr),PTs (X.block N' scope C s₀ H₀ ex) ifs tt)
  (he:∀(C:Addr) (s₀:Shared) (H₀:Hp) (ex:List Addr),PE (X.block N' scope C s₀ H₀ ex) elt te)
  (hN:X.N.Nodup) (hiy:X.N[i]? =some y) (hx:X.env.scope.names.lookup y=some .local)
  (hsw:swapsWith (.ListComp elt [⟨tg,iter,ifs,0⟩] scope pos) (some (.Name y py)) spos.line X.env=pure true)
  (hs:∀x,foldedSetIterable iter X.env x=pure x:=by intro _;rfl):PS X (.Assign [.Name y py] (.ListComp elt [⟨tg,iter,ifs,0⟩] scope pos) spos) (tAsg (Zo6 src wi g tt te) (Zir i)):=by
 intro pins s σ H D I h
 rw[exec_Assign_Name_used _ _ _ _ hsw]
 refine wpAny_bind (wpAny_standAt (wpAny_bind ?_))
 show wpAny _ X.A (do let _←comprehension (.ListComp elt [⟨tg,iter,ifs,0⟩] scope pos) scope X.env _ (newList []) false (eval iter X.env) (some (assign (.Name y py) X.env))) _ _ s
 refine wpAny_bind (wpAny_mono (wpAny_comprehension_free (use:=some (assign (.Name y py) X.env)) (Q:=fun _ s'=>SP X pins D .next s') rfl hs (Zb5 fun y hy e=>I.ok.has y.1 (S.free y hy e)) S.kind S.names
  (thn (hi pins s σ H _ I h) fun v s1 h1=>thn h1 fun itv s2 h2=>?_)) (fun _ s' hq=>wpAny_pure (wpAny_pure hq)) fun _ _ e=>e)
 obtain⟨it,fp,tn,J,H2,e,I2,T,st2,f2,q⟩:=h2
 subst e
 refine Zd2 (Q:=fun x H1=>Zir i x σ H1 D.nx) hc S hg ht he I2 T st2 f2 q fun acc C s' H' m I' q' hn hC c1 c2 c3 c4=>?_
 refine wpAny_assign_Name (Ze6 I' hN hiy (.inl hx) (v:=.ref acc) (u:=.ref acc) rfl (fun s'' I'' ⟨a,hsb,ha⟩=>?_) (.inr hx))
 have hCa:C≠a:=by
  rcases ha with z|z
  ·rw[z];exact c1
  ·exact Ne.symm (c3 _ _ z)
 refine⟨m,hn.sameBut hsb hCa,fun h' hs'=>?_⟩
 exact⟨_,H',I''.turned (t':=s''.toks) (fun b o hb e=>(hs'.2 b hb).trans e) hC c1 (.inr c2) c3 c4,q'⟩
end
end L2
namespace L2
open PySem PySem.Spec PyProof.Rows
noncomputable def Zu9(h:Heap)(xs:List Addr):Heap:={objs:=(Array.range h.objs.size).map fun a=>if a∈xs then{cls:=.none,data:=.freed}else(h.objs[a]?).getD {cls:=.none,data:=.freed}}
structure Raised(h:Heap)(e:Addr)(cls:Value)(dx tb:Option Addr):Prop where
 obj:∃oe vs,h.get? e=some oe∧oe.cls=cls∧oe.dict=dx∧oe.data= .fields vs∧vs[1]? =some (match tb with|none=>.none|some T=>.ref T)
 tr:∀T,tb=some T→T≠e∧∃oT ts fl,h.get? T=some oT∧oT.data= .fields ts∧ts[3]? =some fl
noncomputable def tbl':Option Addr→List Addr
 |none=>[]
 |some T=>[T]
structure Noted(l:List Addr)(h h':Heap)(e:Addr)(cls:Value)(dx tb:Option Addr)(T:Addr):Prop where
 keep:∀b o,b≠e→b∉tbl' tb→b∉l→h.get? b=some o→h'.get? b=some o
 slot:∀b o,b∈l→h.get? b=some o→∃sl,h'.get? b=some {o with slots:=sl}
 new:h.get? T=none∨some T=tb
 r:Raised h' e cls dx (some T)
section
variable{M:Model}{A:Around}{E:Value→Shared→Prop}{s:Shared}{base:Heap}{env:Env}{outer:List Env}{L e:Addr}{cls:Value}{dx tb:Option Addr}{Q:Unit→Shared→Prop}
end
end L2
namespace L2
open PySem PySem.Spec PyProof.Rows
noncomputable def CX1(P:Program)(w:World):CXT:=fun outer H s E e s'=>∃(a:Addr) (cls:Value) (dx:Option Addr) (T:Addr) (H':Hp),e= .ref a∧s'.os=s.os∧AllBare s'.gens∧Un (frs outer) [] H H' s.heap s'.heap∧HOk P w H' s'.heap∧
 Raised s'.heap a cls dx (some T)∧s.heap.get? a=none∧s.heap.get? T=none∧H' a=none∧H' T=none∧E cls dx H'
noncomputable def Zxp(X:Cx)(EX:XK):Prop:=∀(pins:List (Addr×Obj)) (σ:St) (H:Hp) (s:Shared) (e:Addr) (cls:Value) (dx tb:Option Addr),Inv X pins σ H s→Raised s.heap e cls dx tb→X.s₀.heap.get? e=none→H e=none→
 (∀T,tb=some T→X.s₀.heap.get? T=none∧H T=none)→EX cls dx H→X.xe (.ref e) s
end L2
namespace L2
open PySem PySem.Spec PyProof.Rows
abbrev VEB:List Value:=[.type "ValueError",.type "Exception",.type "BaseException",.type "object"]
noncomputable def Zxq(EX:XK)(C:Addr)(t:TA):TS:=fun _ σ H=>t σ H fun vs H1=>vs.length≤sizeLine∧EX (.ref C) none H1
end L2
namespace L2
open PySem PySem.Spec PyProof.Rows
noncomputable abbrev EXT:=Value→Option Addr→St→Hp→Prop
noncomputable def Zva(X:Cx)(EX:EXT):Prop:=∀(pins:List (Addr×Obj)) (σ:St) (H:Hp) (s:Shared) (e:Addr) (cls:Value) (dx:Option Addr) (T:Addr),Inv X pins σ H s→Raised s.heap e cls dx (some T)→X.s₀.heap.get? e=none→H e=none→
 X.s₀.heap.get? T=none→H T=none→(∀p∈X.pn++pins,p.1≠e∧p.1≠T)→(e≠X.env.locals∧T≠X.env.locals)→(∀x c,X.env.cells.lookup x=some c→c≠e∧c≠T)→EX cls dx σ H→X.xe (.ref e) s
noncomputable def Zzf(X:Cx)(EX:EXT):Prop:=∀(pins:List (Addr×Obj)) (σ:St) (H:Hp) (s:Shared) (e:Value) (s':Shared),Inv X pins σ H s→CX1 X.prog X.w X.stack H s (fun cls od H'=>EX cls od σ H') e s'→X.xe e s'
noncomputable def Zxr(sp:Sp)(EX:EXT)(t:TA):TE:=fun σ H Q=>t σ H fun vs H1=>sp vs H1 Q fun cls od H'=>EX cls od σ H'
end L2
namespace L2
open PySem PySem.Spec PyProof.Rows
structure Air(X:Cx)(pins:List (Addr×Obj))(H:Hp)(s:Shared)(e:Addr)(cls:Value)(dx:Option Addr)(T:Addr):Prop where
 r:Raised s.heap e cls dx (some T)
 e0:X.s₀.heap.get? e=none
 eH:H e=none
 t0:X.s₀.heap.get? T=none
 tH:H T=none
 pe:∀p∈X.pn++pins,p.1≠e∧p.1≠T
 le:e≠X.env.locals∧T≠X.env.locals
 ce:∀x c,X.env.cells.lookup x=some c→c≠e∧c≠T
section
variable{X:Cx}{pins:List (Addr×Obj)}{σ:St}{H:Hp}{s:Shared}{e T:Addr}{cls:Value}{dx:Option Addr}
end
noncomputable abbrev Cx.inTry(X:Cx)(pn:List (Addr×Obj))(xe:Value→Shared→Prop):Cx:={X with pn:=pn,xe:=xe}
noncomputable abbrev Cx.inSuite(X:Cx)(a:Addr):Cx:={X with A:=X.A.mark (some (.ref a)),calm:=false,xe:=fun _ _=>False}
section
variable{X:Cx}{pins:List (Addr×Obj)}{σ:St}{H:Hp}{s:Shared}{e T:Addr}{cls:Value}{dx:Option Addr}{xe:Value→Shared→Prop}
noncomputable def Ziw(a C:Addr)(dx:Option Addr):Heap→Prop:=fun h=>∃o,h.get? a=some o∧o.cls= .ref C∧o.dict=dx∧PySem.W.notCls o=true
end
end L2
namespace L2
open PySem PySem.Spec PyProof.Rows
set_option genInjectivity false in
structure Hd where
 x:Str
 np:Pos
 nm:Option (Str×Nat)
 b0:Stmt
 suite:List Stmt
 pos:Pos
 B:Addr
 t:TS
noncomputable def Hd.ast(h:Hd):ExceptHandler:=.ExceptHandler (some (.Name h.x h.np)) (h.nm.map (·.1)) (h.b0::h.suite) h.pos
noncomputable def Ends.but(D:Ends)(i:Nat):Ends:={nx:=fun σ H=>D.nx (σ.set i none) H,bk:=fun σ H=>D.bk (σ.set i none) H,ct:=fun σ H=>D.ct (σ.set i none) H,rt:=D.rt}
noncomputable def Hd.run(h:Hd)(C:Addr)(dx:Option Addr)(D:Ends)(σ:St)(H:Hp):Prop:=match h.nm with
 |none=>h.t D σ H
 |some (_,i)=>∀a,H a=none→h.t (D.but i) (σ.set i (some (.ref a))) (upd H a (.ext (Ziw a C dx)))
noncomputable def Zr1(K:PySem.W.Frag)(C:Addr):List Hd→Option Hd
 | []=>none
 |h::r=>match PySem.W.mroIn K C (.ref h.B)with
  |some true=>some h
  |some false=>Zr1 K C r
  |none=>none
set_option genInjectivity false in
structure Hd.Ok(X:Cx)(h:Hd):Prop where
 gl:Gl X h.x
 mg:X.mg h.x=some (.ref h.B)
 ty:PySem.W.typeIn X.K (.ref h.B)=some (.type "type")
 cl:PySem.W.isClsIn X.K h.B=true
 bs:PySem.W.mroIn X.K h.B (.type "BaseException")=some true
 db:(h.x==("__debug__":Str))=false
 nm:∀n i,h.nm=some (n,i)→X.N.Nodup∧X.N[i]? =some n∧Loc X.env.scope n∧X.env.kindOf n=some .local∧X.env.scope.names.lookup n=some .local
 su:∀a,PSs (X.inSuite a) (h.b0::h.suite) h.t
section
variable{X:Cx}{pins:List (Addr×Obj)}{σ:St}{H:Hp}{s:Shared}{e T C:Addr}{dx:Option Addr}{D:Ends}
noncomputable def tTry(K:PySem.W.Frag)(tb:EXT→TS)(hs:List Hd):TS:=fun D σ H=>tb (fun cls dx σ' H'=>∃C h,cls= .ref C∧Zr1 K C hs=some h∧h.run C dx D σ' H') D σ H
end
end L2
namespace L2
open PySem PySem.Spec PySem.Calls PyProof.Rows Builtin.ObjectAttr Builtin.Getset_descriptor
structure ExcKit(K:PySem.W.Frag)(C:Addr):Prop where
 cl:PySem.W.isClsIn K C=true
 ga:PySem.W.findIn K (.ref C) "__getattribute__"=some (some (.builtin "BaseException.__getattribute__"))
 gt:PySem.W.findIn K (.ref C) "__getattr__"=some none
 ca:PySem.W.findIn K (.ref C) "__class__"=some (some (.builtin "object.__class__"))
 gs:PySem.W.specialIn K (.builtin "object.__class__") "__get__"=some (some (.builtin "getset_descriptor.__get__"))
 tk:PySem.W.takesIn K (.builtin "object.__class__")=some true
 ob:PySem.W.mroIn K C (.type "object")=some true
 be:PySem.W.mroIn K C (.type "BaseException")=some true
section
variable{prog:Program}{w:World}{A:Around}{E:Value→Shared→Prop}{s:Shared}{K:PySem.W.Frag}{x C:Addr}{dx:Option Addr}
end
section
variable{X:Cx}
noncomputable def rIsX(K:PySem.W.Frag)(c:V)(cv:Value):List V→Hp→VK→Prop:=fun xs H Q=>∃a C dx b,xs=[.ref a,c]∧H a=some (.ext (Ziw a C dx))∧ExcKit K C∧PySem.W.kitOne K (.ref C) cv=some b∧Q (.bl b) H
noncomputable def Zzg(K:PySem.W.Frag)(Bs:List Addr):List V→Hp→VK→Prop:=fun xs H Q=>∃a C dx p b,xs=[.ref a,.ref p]∧H a=some (.ext (Ziw a C dx))∧ExcKit K C∧H p=some (.tup (Bs.map V.ref))∧PySem.W.kitAny K (.ref C) (Bs.map Value.ref)=some b∧Q (.bl b) H
theorem Zj7:∀{Bs:List Addr} {us:List Value},Vals (Bs.map V.ref) us→us=Bs.map Value.ref
 | [],_,r=>by rw[List.map_nil]at r;cases r;rfl
 |B::Bs,_,r=>by
  rw[List.map_cons]at r
  cases r with
  |cons h t=>rw[show _=Value.ref B from h,Zj7 t];rfl
end
end L2
namespace L2
open PySem PySem.Spec PyProof.Rows
section
variable{X:Cx}{pins:List (Addr×Obj)}{σ:St}{H:Hp}{s s':Shared}
end
noncomputable abbrev Cx.blockX(X:Cx)(N':List Str)(scope:Scope)(C:Addr)(s₀:Shared)(H₀:Hp)(ex:List Addr)(xe:Value→Shared→Prop):Cx:=
 {X with N:=N',env:=compEnvC scope (clOf X.env.cells scope.names []) C X.env,s₀:=s₀,H₀:=H₀,outer:=X.stack,stack:=X.stack,ex:=ex,fn:=fun _=>false,pn:=[],xe:=xe}
section
variable{X:Cx}{N':List Str}{scope:Scope}{src:List BSrc}{pins:List (Addr×Obj)}{σ:St}{H:Hp}{s:Shared}{C acc:Addr}{fp:List Addr}
noncomputable def Zxs(src:List BSrc)(wi:TI)(g:TG)(tt:TT)(te:EXT→TE)(EX:EXT):TE:=fun σ H Q=>wi σ H fun J H1=>∀acc,H1 acc=none→
 ∃W:Nat→Nat→St→Hp→Prop,(∃m,W 0 m (bSt src σ acc) (upd H1 acc (.lst [])))∧∀i m σ' H,W i m σ' H→(J.stop i H∧Q (.ref acc) H)∨
  (J.go i H∧∀x H',J.yld i H x H'→g x σ' H' fun σ2 H2=>tt σ2 H2 fun b H3=>if b=true then te (fun cls od _ H'=>EX cls od σ H') σ2 H3 fun y H4=>Zc6 (.ref acc) [y] H4 fun _ H5=>∃m',m'<m∧W (i+1) m' σ2 H5 else∃m',m'<m∧W (i+1) m' σ2 H3)
end
end L2
namespace PySem
open Sem (wp)
section
variable{prog:Program}{w:World}{A:Around}{E:Value→Shared→Prop}{h:Heap}{g:Array GenState}{d:Drawn}{t:Nat}{os:OsState}
variable{nm q:Str}{C N fI:Addr}{oI:Obj}{bs bm bmB bmN:List Value}{hdct:Bool}{sn:List Str}{sub:List Value}{ab:Bool}{col:Option Bool}{dd:Option Addr}{k0 k1 k2 k3 k5:Option Value}{B Bn newId nid initId inN:String}{mN:Str→Option Value}{rest:List Value}
end
section
variable{prog:Program}{w:World}{A:Around}{E:Value→Shared→Prop}{s:Shared}{env:Env}
variable{nm q:Str}{C N fI:Addr}{bs bm bmB bmN:List Value}{hdct:Bool}{sn:List Str}{sub:List Value}{ab:Bool}{col:Option Bool}{dd:Option Addr}{k0 k1 k2 k3 k5:Option Value}{B Bn newId nid initId inN:String}{mN:Str→Option Value}
end
end PySem
namespace L2
open PySem PySem.Spec PySem.Calls PyProof.Rows Builtin.ObjectAttr
noncomputable def Znv:List Value→Bool
 | .ref _::r=>Znv r
 |l=>l==VEB
structure ExcSet(K:PySem.W.Frag)(C:Addr)(name:Str):Prop where
 sa:PySem.W.findIn K (.ref C) "__setattr__"=some (some (.builtin "object.__setattr__"))
 ob:PySem.W.mroIn K C (.type "object")=some true
 na:PySem.W.findIn K (.ref C) name=some none
 mr:((PySem.W.clsIn K C).any fun cd=>Znv cd.mro&&cd.hasDict)=true
noncomputable def Zcx(a C:Addr)(dx:Option Addr):Heap→Prop:=fun h=>∃o t,h.get? a=some o∧o.cls= .ref C∧o.dict=dx∧o.data= .fields #[.ref t,.none,.none,.none,.bool false,.none]
section
variable{prog:Program}{w:World}{A:Around}{E:Value→Shared→Prop}{s:Shared}{K:PySem.W.Frag}{x C:Addr}{name:Str}{v:Value}
end
end L2
namespace L2
open PySem PySem.Spec PyProof.Rows
noncomputable def Zxt(K:PySem.W.Frag)(C f:Addr):Bool:=match K.lookup C with
 |some ⟨.type "type",_,.cls cd,sl⟩=>(match cd.mro,sl.toList with
  | .ref B::r,[_,_,_,_,some (.builtin i),_]=>B==C&&i=="ValueError.__new__" && !cd.hasDel&&PySem.W.tailIn K VEB r&&PySem.W.nsOkIn K cd.ns&&PySem.W.nsIn K cd.ns "__init__"==some (some (.ref f))
  |_,_=>false)
 |_=>false
noncomputable def Zvb(C f:Addr)(h:Heap):Prop:=∃(bm:List Value) (N:Addr) (nm q:Str) (bs:List Value) (hdct:Bool) (sn:List Str) (sub:List Value) (ab:Bool) (col:Option Bool) (dd:Option Addr) (k0 k1 k2 k3 k5:Option Value) (mN:Str→Option Value),
 h.get? C=some (excClassObj nm q C N bs bm hdct sn sub ab col dd k0 k1 k2 k3 k5 "ValueError.__new__")∧h.Ns N mN∧mN "__init__"=some (.ref f)∧OwnTail h VEB bm
noncomputable def drop(H:Hp)(e:Addr):Hp:=fun b=>if b=e then none else H b
section
variable{X:Cx}{pins:List (Addr×Obj)}{σ:St}{H:Hp}{s:Shared}{e C:Addr}
end
structure ExcGet(K:PySem.W.Frag)(C:Addr)(f:Str):Prop where
 kit:ExcKit K C
 na:PySem.W.findIn K (.ref C) f=some none
 mr:((PySem.W.clsIn K C).any fun cd=>cd.hasDict)=true
noncomputable def Zxu(K:PySem.W.Frag)(ta:TE)(f:Str):TE:=fun σ H Q=>ta σ H fun x H1=>∃a C dx fs v,x= .ref a∧H1 a=some (.ext (Ziw a C (some dx)))∧H1 dx=some (.xd fs)∧ExcGet K C f∧fs.lookup f=some v∧Q v H1
section
variable{X:Cx}{e o value:Expr}{f:Str}{pos pos':Pos}{ta tv:TE}
noncomputable def Zxv(K:PySem.W.Frag)(ta tv:TE)(f:Str):TS:=fun D σ H=>tv σ H fun y H1=>ta σ H1 fun x H2=>∃a C,x= .ref a∧H2 a=some (.ext (Zcx a C none))∧ExcSet K C f∧
 ∀dx,H2 dx=none→D.nx σ (upd (upd H2 dx (.xd [(f,y)])) a (.ext (Zcx a C (some dx))))
end
noncomputable def Zvc(EX:XK)(C:Addr)(sp:Sp)(t:TA):TS:=fun _ σ H=>t σ H fun vs H1=>vs.length≤sizeLine∧∀e,H1 e=none→sp (.ref e::vs) (upd H1 e (.ext (Zcx e C none))) (fun v H2=>v= .non∧∃dx,H2 e=some (.ext (Zcx e C dx))∧EX (.ref C) dx (drop H2 e)) E0
end L2
namespace DL
open PySem L2
variable{K:PySem.W.Frag}
inductive D where
 |non|bl (b:Bool)|int (i:Int)|str (x:Str)
 |tup (xs:List D)|lst (xs:List D)
 |dK (ks:List Key) (vs:List D)|dT (ks:List (List Key)) (vs:List D)
 |exc (c:Str) (ks:List Str) (vs:List D)
noncomputable def Zgx(K:PySem.W.Frag)(c:Str)(C:Addr):Prop:=PySem.W.nsIn K mainGlobals c=some (some (.ref C))
noncomputable def KB(F:Hp)(kvs:List (List Key×V))(bs:List Addr):Prop:=Paired (fun(p:List Key×V) (b:Addr)=>F b=some (.tup (p.1.map kV))) kvs bs
mutual
inductive Rep(K:PySem.W.Frag)(F:Hp):D→V→Prop where
 |non:Rep K F .non .non
 |bl (b:Bool):Rep K F (.bl b) (.bl b)
 |int (i:Int):Rep K F (.int i) (.int i)
 |str (x:Str):Rep K F (.str x) (.str x)
 |tup {a:Addr} {xs:List D} {vs:List V} (h:F a=some (.tup vs)) (r:Reps K F xs vs):Rep K F (.tup xs) (.ref a)
 |lst {a:Addr} {xs:List D} {vs:List V} (h:SqL K F a vs) (r:Reps K F xs vs):Rep K F (.lst xs) (.ref a)
 |dK {a:Addr} {ks:List Key} {ds:List D} {kvs:List (Key×V)} {ep:Nat} (h:F a=some (.dK kvs ep)) (e:kvs.map (·.1)=ks) (r:Reps K F ds (kvs.map (·.2))):Rep K F (.dK ks ds) (.ref a)
 |dT {a:Addr} {ks:List (List Key)} {ds:List D} {kvs:List (List Key×V)} {ep:Nat} {bs:List Addr} (h:F a=some (.dT kvs ep bs)) (kb:KB F kvs bs) (e:kvs.map (·.1)=ks) (r:Reps K F ds (kvs.map (·.2))):Rep K F (.dT ks ds) (.ref a)
 |exc {a C:Addr} {c:Str} (cl:Zgx K c C) (h:F a=some (.ext (Ziw a C none))):Rep K F (.exc c [] []) (.ref a)
 |exd {a C dx:Addr} {c:Str} {ks:List Str} {ds:List D} {fs:List (Str×V)} (cl:Zgx K c C) (h:F a=some (.ext (Ziw a C (some dx)))) (hx:F dx=some (.xd fs)) (e:fs.map (·.1)=ks) (r:Reps K F ds (fs.map (·.2))):Rep K F (.exc c ks ds) (.ref a)
inductive Reps(K:PySem.W.Frag)(F:Hp):List D→List V→Prop where
 |nil:Reps K F [] []
 |cons {d:D} {v:V} {ds:List D} {vs:List V} (h:Rep K F d v) (t:Reps K F ds vs):Reps K F (d::ds) (v::vs)
end
theorem KB.mono{F F':Hp}(s:Same F F'){kvs:List (List Key×V)}{bs:List Addr}(h:KB F kvs bs):KB F' kvs bs:=Paired.mapP h fun _ _ z=>s _ _ z
theorem Znw{F F':Hp}(s:Same F F'){a:Addr}{u:HO}(h:Rd F a u):Rd F' a u:=by
 rcases h with h|⟨o,h⟩
 ·exact .inl (s _ _ h)
 ·exact .inr ⟨o,s _ _ h⟩
theorem Zab{F F':Hp}(s:Same F F'){a:Addr}{xs:List V}(h:SqL K F a xs):SqL K F' a xs:=by
 rcases h with h|h
 ·exact .inl (Znw s h)
 ·exact .inr h
theorem Zas{F F':Hp}(s:Same F F'){a:Addr}{xs:List V}(h:SqT K F a xs):SqT K F' a xs:=by
 rcases h with h|h
 ·exact .inl (Znw s h)
 ·exact .inr h
theorem Zdu{F:Hp}{a:Addr}{vs:List V}(h:F a=some (.tup vs)):SqT K F a vs:=.inl (.inl h)
mutual
theorem Rep.mono{F F':Hp}(s:Same F F'):∀{d:D} {v:V},Rep K F d v→Rep K F' d v
 |_,_,.non=>.non
 |_,_,.bl b=>.bl b
 |_,_,.int i=>.int i
 |_,_,.str x=>.str x
 |_,_,.tup h r=>.tup (s _ _ h) (Reps.mono s r)
 |_,_,.lst h r=>.lst (Zab s h) (Reps.mono s r)
 |_,_,.dK h e r=>.dK (s _ _ h) e (Reps.mono s r)
 |_,_,.dT h kb e r=>.dT (s _ _ h) (kb.mono s) e (Reps.mono s r)
 |_,_,.exc cl h=>.exc cl (s _ _ h)
 |_,_,.exd cl h hx e r=>.exd cl (s _ _ h) (s _ _ hx) e (Reps.mono s r)
theorem Reps.mono{F F':Hp}(s:Same F F'):∀{ds:List D} {vs:List V},Reps K F ds vs→Reps K F' ds vs
 |_,_,.nil=>.nil
 |_,_,.cons h t=>.cons (Rep.mono s h) (Reps.mono s t)
end
theorem Reps.length{F:Hp}{ds:List D}:∀{vs:List V},Reps K F ds vs→ds.length=vs.length:=by
 induction ds with
 |nil=>intro vs h;cases h;rfl
 |cons d ds ih=>
  intro vs h
  cases h with
  |cons _ t=>rw[List.length_cons,List.length_cons,ih t]
theorem Reps.append{F:Hp}{ds es:List D}{vs us:List V}(h:Reps K F ds vs)(q:Reps K F es us):Reps K F (ds++es) (vs++us):=by
 induction ds generalizing vs with
 |nil=>cases h;exact q
 |cons d ds ih=>
  cases h with
  |cons h t=>exact .cons h (ih t)
theorem Reps.snoc{F:Hp}{ds:List D}{vs:List V}{d:D}{v:V}(r:Reps K F ds vs)(h:Rep K F d v):Reps K F (ds++[d]) (vs++[v]):=r.append (.cons h .nil)
theorem Reps.get{F:Hp}:∀{ds:List D} {vs:List V} {i:Nat} {d:D},Reps K F ds vs→ds[i]? =some d→∃v,vs[i]? =some v∧Rep K F d v
 |_,_,_,_,.nil,e=>by simp at e
 |_,_,0,_,.cons h t,e=>by simp at e;subst e;exact⟨_,rfl,h⟩
 |_,_,i+1,d,.cons h t,e=>by
  obtain⟨v,h1,h2⟩:=Reps.get (i:=i) (d:=d) t (by simpa using e)
  exact⟨v,by simpa using h1,h2⟩
theorem Reps.take{F:Hp}:∀{ds:List D} {vs:List V} (n:Nat),Reps K F ds vs→Reps K F (ds.take n) (vs.take n)
 |_,_,0,_=>.nil
 |_,_,_+1,.nil=>.nil
 |_,_,n+1,.cons h t=>.cons h (t.take n)
theorem Reps.drop{F:Hp}:∀{ds:List D} {vs:List V} (n:Nat),Reps K F ds vs→Reps K F (ds.drop n) (vs.drop n)
 |_,_,0,r=>r
 |_,_,_+1,.nil=>.nil
 |_,_,n+1,.cons h t=>t.drop n
inductive SV where
 |fz (d:D)|ol (xs:List D)|oK (ks:List Key) (vs:List D)|oT (ks:List (List Key)) (vs:List D)|oN (ks:List Key) (xss:List (List D))|oL (pin:Option Addr) (xss:List (List D))|oQ (pin:Addr) (ks:List Key) (vs:List D)
@[simp] noncomputable def SV.toD:SV→D
 | .fz d=>d
 | .ol xs=>.lst xs
 | .oK ks vs=>.dK ks vs
 | .oT ks vs=>.dT ks vs
 | .oN ks xss=>.dK ks (xss.map D.lst)
 | .oL _ xss=>.lst (xss.map D.lst)
 | .oQ _ ks vs=>.dK ks vs
noncomputable abbrev Zo:=List (Addr×HO)
inductive Kids(K:PySem.W.Frag)(F:Hp):List (List D)→List V→Zo→Prop where
 |nil:Kids K F [] [] []
 |cons {xs:List D} {xss:List (List D)} {b:Addr} {vs:List V} {ws:List V} {ns:Zo} (r:Reps K F xs vs) (t:Kids K F xss ws ns):Kids K F (xs::xss) (.ref b::ws) ((b,.lst vs)::ns)
inductive Shape(K:PySem.W.Frag)(F:Hp):SV→V→Zo→Prop where
 |fz {d:D} {v:V} (h:Rep K F d v):Shape K F (.fz d) v []
 |ol {a:Addr} {xs:List D} {vs:List V} (r:Reps K F xs vs):Shape K F (.ol xs) (.ref a) [(a,.lst vs)]
 |oK {a:Addr} {ks:List Key} {ds:List D} {kvs:List (Key×V)} {ep:Nat} (e:kvs.map (·.1)=ks) (r:Reps K F ds (kvs.map (·.2))):Shape K F (.oK ks ds) (.ref a) [(a,.dK kvs ep)]
 |oT {a:Addr} {ks:List (List Key)} {ds:List D} {kvs:List (List Key×V)} {ep:Nat} {bs:List Addr} (kb:KB F kvs bs) (e:kvs.map (·.1)=ks) (r:Reps K F ds (kvs.map (·.2))):Shape K F (.oT ks ds) (.ref a) [(a,.dT kvs ep bs)]
 |oN {a:Addr} {ks:List Key} {xss:List (List D)} {kvs:List (Key×V)} {ns:Zo} {ep:Nat} (e:kvs.map (·.1)=ks) (r:Kids K F xss (kvs.map (·.2)) ns):Shape K F (.oN ks xss) (.ref a) ((a,.dK kvs ep)::ns)
 |oL {pin:Option Addr} {a:Addr} {xss:List (List D)} {ws:List V} {ns:Zo} (hp:∀b,pin=some b→b=a) (r:Kids K F xss ws ns):Shape K F (.oL pin xss) (.ref a) ((a,.lst ws)::ns)
 |oQ {a:Addr} {ks:List Key} {ds:List D} {kvs:List (Key×V)} {ep:Nat} (e:kvs.map (·.1)=ks) (r:Reps K F ds (kvs.map (·.2))):Shape K F (.oQ a ks ds) (.ref a) [(a,.dK kvs ep)]
theorem Kids.mono{F F':Hp}(s:Same F F'){xss:List (List D)}{ws:List V}{ns:Zo}(h:Kids K F xss ws ns):Kids K F' xss ws ns:=by
 induction h with
 |nil=>exact .nil
 |cons r _ ih=>exact .cons (r.mono s) ih
theorem Shape.mono{F F':Hp}(s:Same F F'){sv:SV}{v:V}{ns:Zo}(h:Shape K F sv v ns):Shape K F' sv v ns:=by
 cases h with
 |fz h=>exact .fz (h.mono s)
 |ol r=>exact .ol (r.mono s)
 |oK e r=>exact .oK e (r.mono s)
 |oT kb e r=>exact .oT (kb.mono s) e (r.mono s)
 |oN e r=>exact .oN e (r.mono s)
 |oL hp r=>exact .oL hp (r.mono s)
 |oQ e r=>exact .oQ e (r.mono s)
noncomputable def addL(F:Hp):Zo→Hp
 | []=>F
 |p::r=>upd (addL F r) p.1 p.2
noncomputable abbrev adr(ns:Zo):List Addr:=ns.map (·.1)
theorem Zbn{F:Hp}{b:Addr}:∀{ns:Zo},b∉adr ns→addL F ns b=F b
 | [],_=>rfl
 |p::r,h=>by
  have h1:b≠p.1:=fun e=>h (by rw[e];exact List.mem_cons_self)
  have h2:b∉adr r:=fun e=>h (List.mem_cons_of_mem _ e)
  show upd (addL F r) p.1 p.2 b=F b
  rw[Zl h1,Zbn h2]
theorem Zeg{F:Hp}{p:Addr×HO}:∀{ns:Zo},(adr ns).Nodup→p∈ns→addL F ns p.1=some p.2
 | [],_,h=>nomatch h
 |q::r,nd,h=>by
  obtain⟨n1,n2⟩:=List.nodup_cons.mp nd
  show upd (addL F r) q.1 q.2 p.1=some p.2
  rcases List.mem_cons.mp h with e|e
  ·subst e;exact Zv
  ·rw[Zl fun z=>n1 (List.mem_map.mpr ⟨p,e,z⟩)]
   exact Zeg n2 e
theorem Zat{F:Hp}{ns:Zo}(h:∀p∈ns,F p.1=none):Same F (addL F ns):=fun b o e=>by
 by_cases hb:b∈adr ns
 ·obtain⟨p,hp,ep⟩:=List.mem_map.mp hb
  subst ep
  rw[h p hp]at e;cases e
 ·rw[Zbn hb];exact e
theorem Zj8{F H:Hp}{ns:Zo}(nd:(adr ns).Nodup)(le:Same F H)(h:∀p∈ns,H p.1=some p.2):Same (addL F ns) H:=fun b o e=>by
 by_cases hb:b∈adr ns
 ·obtain⟨p,hp,ep⟩:=List.mem_map.mp hb
  subst ep
  rw[Zeg nd hp]at e
  cases e
  exact h p hp
 ·rw[Zbn hb]at e;exact le b o e
theorem Zhu{Z:Hp×Hp}{F:Hp}{ns:Zo}(nd:(adr ns).Nodup)(fro:∀(b:Addr) (o:HO),F b=some o→Z.2 b=some o∨Z.1 b=none)(hz:∀p∈ns,Z.1 p.1=none):∀(b:Addr) (o:HO),addL F ns b=some o→Z.2 b=some o∨Z.1 b=none:=fun b o e=>by
 by_cases hb:b∈adr ns
 ·obtain⟨p,hp,ep⟩:=List.mem_map.mp hb
  subst ep
  exact .inr (hz p hp)
 ·rw[Zbn hb]at e;exact fro b o e
theorem Kids.rep{F F':Hp}(s:Same F F'):∀{xss:List (List D)} {ws:List V} {ns:Zo},Kids K F xss ws ns→(∀p∈ns,F' p.1=some p.2)→Reps K F' (xss.map D.lst) ws
 |_,_,_,.nil,_=>.nil
 |_,_,_,.cons r t,h=>.cons (.lst (.inl (.inl (h _ List.mem_cons_self))) (r.mono s)) (t.rep s fun p hp=>h p (List.mem_cons_of_mem _ hp))
theorem Shape.rep{F:Hp}{sv:SV}{v:V}{ns:Zo}(h:Shape K F sv v ns)(nd:(adr ns).Nodup)(hn:∀p∈ns,F p.1=none):Rep K (addL F ns) sv.toD v:=by
 have s:=Zat hn
 have a:∀p∈ns,addL F ns p.1=some p.2:=fun p hp=>Zeg nd hp
 cases h with
 |fz h=>exact h
 |ol r=>exact .lst (.inl (.inl (a (_,_) List.mem_cons_self))) (r.mono s)
 |oK e r=>exact .dK (a (_,_) List.mem_cons_self) e (r.mono s)
 |oT kb e r=>exact .dT (a (_,_) List.mem_cons_self) (kb.mono s) e (r.mono s)
 |oN e r=>exact .dK (a (_,_) List.mem_cons_self) e (r.rep s fun p hp=>a p (List.mem_cons_of_mem _ hp))
 |oL _ r=>exact .lst (.inl (.inl (a (_,_) List.mem_cons_self))) (r.rep s fun p hp=>a p (List.mem_cons_of_mem _ hp))
 |oQ e r=>exact .dK (a (_,_) List.mem_cons_self) e (r.mono s)
noncomputable abbrev DSt:=List (Option SV)
set_option genInjectivity false in
structure Ent(K:PySem.W.Frag)where
 h:Hp
 f:Hp
 x:EXT
noncomputable abbrev ent(H F:Hp):Ent K:=⟨H,F,fun _ _ _ _=>False⟩
set_option genInjectivity false in
structure Exn where
 c:Str
 ks:List Str:=[]
 vs:List D:=[]
noncomputable def Zhv(K:PySem.W.Frag)(F:Hp)(e:Exn)(cls:Value)(od:Option Addr):Prop:=∃C,Zgx K e.c C∧cls= .ref C∧match od with
 |none=>e.ks=[]∧e.vs=[]
 |some dx=>∃fs:List (Str×V),F dx=some (.xd fs)∧fs.map (·.1)=e.ks∧Reps K F e.vs (fs.map (·.2))
structure SR(Z:Ent K)(F H:Hp)(σ:St)(δ:DSt)(own:Nat→Zo):Prop where
 le:Same F H
 fro:∀(b:Addr) (o:HO),F b=some o→Z.f b=some o∨Z.h b=none
 old:Same Z.h H
 len:σ.length=δ.length
 at':∀(i:Nat) (sv:SV),δ[i]? =some (some sv)→∃v,σ[i]? =some (some v)∧Shape K F sv v (own i)
 nod:∀i:Nat,(adr (own i)).Nodup
 ok:∀(i:Nat) (p:Addr×HO),p∈own i→F p.1=none∧Z.h p.1=none∧H p.1=some p.2
 sep:∀(i j:Nat) (p q:Addr×HO),i≠j→p∈own i→q∈own j→p.1≠q.1
inductive RV where
 |tmp (sv:SV)|bw (i:Nat)
structure TmpOk(Z:Ent K)(F H:Hp)(own:Nat→Zo)(sv:SV)(v:V)(ns:Zo):Prop where
 sh:Shape K F sv v ns
 nd:(adr ns).Nodup
 ok:∀p∈ns,F p.1=none∧Z.h p.1=none∧H p.1=some p.2
 sep:∀(i:Nat) (p q:Addr×HO),p∈ns→q∈own i→p.1≠q.1
noncomputable def Zix(Z:Ent K)(F H:Hp)(σ:St)(own:Nat→Zo):RV→V→Prop
 | .tmp sv,v=>∃ns,TmpOk Z F H own sv v ns
 | .bw i,v=>σ[i]? =some (some v)
theorem TmpOk.fz{Z:Ent K}{F H:Hp}{own:Nat→Zo}{d:D}{v:V}(h:Rep K F d v):TmpOk Z F H own (.fz d) v []:=
 ⟨.fz h,List.nodup_nil,fun _ h=>(nomatch h),fun _ _ _ h=>(nomatch h)⟩
theorem Zbo{H:Hp}{p:Addr}{o:HO}(h:H p=none):Same H (upd H p o):=fun b u e=>by
 rw[Zl fun z=>by rw[z,h]at e;cases e];exact e
theorem SR.grow{Z:Ent K}{F H H':Hp}{σ:St}{δ:DSt}{own:Nat→Zo}(s:SR Z F H σ δ own)(h:Same H H'):SR Z F H' σ δ own:=
 ⟨s.le.trans h,s.fro,s.old.trans h,s.len,s.at',s.nod,fun i p hp=>let⟨a,b,c⟩:=s.ok i p hp;⟨a,b,h _ _ c⟩,s.sep⟩
theorem SR.addF{Z:Ent K}{F H:Hp}{σ:St}{δ:DSt}{own:Nat→Zo}{ns:Zo}(s:SR Z F H σ δ own)(nd:(adr ns).Nodup)(hn:∀p∈ns,F p.1=none)(hH:∀p∈ns,H p.1=some p.2)(hz:∀p∈ns,Z.h p.1=none)
  (hs:∀(i:Nat) (p q:Addr×HO),p∈ns→q∈own i→p.1≠q.1):SR Z (addL F ns) H σ δ own:=by
 have sm:=Zat hn
 refine⟨Zj8 nd s.le hH,Zhu (Z:=(Z.h,Z.f)) nd s.fro hz,s.old,s.len,fun i sv e=>?_,s.nod,fun i p hp=>?_,s.sep⟩
 ·obtain⟨v,h1,h2⟩:=s.at' i sv e
  exact⟨v,h1,h2.mono sm⟩
 ·obtain⟨a,b,c⟩:=s.ok i p hp
  refine⟨?_,b,c⟩
  rw[Zbn fun hb=>?_]
  ·exact a
  ·obtain⟨q,hq,e⟩:=List.mem_map.mp hb
   exact hs i q p hq hp e
theorem SR.settle{Z:Ent K}{F H:Hp}{σ:St}{δ:DSt}{own:Nat→Zo}{sv:SV}{v:V}{ns:Zo}(s:SR Z F H σ δ own)(t:TmpOk Z F H own sv v ns):
  ∃F1,Same F F1∧SR Z F1 H σ δ own∧Rep K F1 sv.toD v:=
 ⟨addL F ns,Zat fun p hp=>(t.ok p hp).1,s.addF t.nd (fun p hp=>(t.ok p hp).1) (fun p hp=>(t.ok p hp).2.2) (fun p hp=>(t.ok p hp).2.1) t.sep,t.sh.rep t.nd fun p hp=>(t.ok p hp).1⟩
noncomputable def put(own:Nat→Zo)(i:Nat)(ns:Zo):Nat→Zo:=fun j=>if j=i then ns else own j
theorem Z3{own:Nat→Zo}{i:Nat}{ns:Zo}:put own i ns i=ns:=if_pos rfl
theorem Zaf{own:Nat→Zo}{i j:Nat}{ns:Zo}(h:j≠i):put own i ns j=own j:=if_neg h
theorem SR.freeze{Z:Ent K}{F H:Hp}{σ:St}{δ:DSt}{own:Nat→Zo}{i:Nat}{sv:SV}(s:SR Z F H σ δ own)(e:δ[i]? =some (some sv)):
  ∃F1 v,Same F F1∧σ[i]? =some (some v)∧Rep K F1 sv.toD v∧SR Z F1 H σ (δ.set i (some (.fz sv.toD))) (put own i []):=by
 obtain⟨v,h1,h2⟩:=s.at' i sv e
 have hn:∀p∈own i,F p.1=none:=fun p hp=>(s.ok i p hp).1
 have sm:=Zat hn
 have hi:i<δ.length:=(List.getElem?_eq_some_iff.mp e).1
 refine⟨addL F (own i),v,sm,h1,h2.rep (s.nod i) hn,⟨Zj8 (s.nod i) s.le fun p hp=>(s.ok i p hp).2.2,Zhu (Z:=(Z.h,Z.f)) (s.nod i) s.fro fun p hp=>(s.ok i p hp).2.1,s.old,by rw[List.length_set];exact s.len,fun j sw ej=>?_,fun j=>?_,fun j p hp=>?_,fun j k p q hjk hp hq=>?_⟩⟩
 ·by_cases hj:j=i
  ·subst hj
   rw[List.getElem?_set_self hi]at ej
   cases ej
   rw[Z3]
   exact⟨v,h1,.fz (h2.rep (s.nod j) hn)⟩
  ·rw[List.getElem?_set_ne (Ne.symm hj)]at ej
   obtain⟨w,g1,g2⟩:=s.at' j sw ej
   rw[Zaf hj]
   exact⟨w,g1,g2.mono sm⟩
 ·by_cases hj:j=i
  ·subst hj;rw[Z3];exact List.nodup_nil
  ·rw[Zaf hj];exact s.nod j
 ·by_cases hj:j=i
  ·subst hj;rw[Z3]at hp;exact nomatch hp
  ·rw[Zaf hj]at hp
   obtain⟨a,b,c⟩:=s.ok j p hp
   refine⟨?_,b,c⟩
   rw[Zbn fun hb=>?_]
   ·exact a
   ·obtain⟨q,hq,z⟩:=List.mem_map.mp hb
    exact s.sep i j q p (Ne.symm hj) hq hp z
 ·by_cases hj:j=i
  ·subst hj;rw[Z3]at hp;exact nomatch hp
  ·by_cases hk:k=i
   ·subst hk;rw[Z3]at hq;exact nomatch hq
   ·rw[Zaf hj]at hp
    rw[Zaf hk]at hq
    exact s.sep j k p q hjk hp hq
theorem SR.store{Z:Ent K}{F H:Hp}{σ:St}{δ:DSt}{own:Nat→Zo}{i:Nat}{sv:SV}{v:V}{ns:Zo}(s:SR Z F H σ δ own)(t:TmpOk Z F H own sv v ns)(hi:i<σ.length):
  SR Z F H (σ.set i (some v)) (δ.set i (some sv)) (put own i ns):=by
 refine⟨s.le,s.fro,s.old,by rw[List.length_set,List.length_set];exact s.len,fun j sw ej=>?_,fun j=>?_,fun j p hp=>?_,fun j k p q hjk hp hq=>?_⟩
 ·by_cases hj:j=i
  ·subst hj
   have hd:j<δ.length:=by
    have:=(List.getElem?_eq_some_iff.mp ej).1
    simpa using this
   rw[List.getElem?_set_self hd]at ej
   cases ej
   rw[Z3,List.getElem?_set_self hi]
   exact⟨v,rfl,t.sh⟩
  ·rw[List.getElem?_set_ne (Ne.symm hj)]at ej
   rw[Zaf hj,List.getElem?_set_ne (Ne.symm hj)]
   exact s.at' j sw ej
 ·by_cases hj:j=i
  ·subst hj;rw[Z3];exact t.nd
  ·rw[Zaf hj];exact s.nod j
 ·by_cases hj:j=i
  ·subst hj;rw[Z3]at hp;exact t.ok p hp
  ·rw[Zaf hj]at hp;exact s.ok j p hp
 ·by_cases hj:j=i
  ·subst hj
   rw[Z3]at hp
   rw[Zaf (Ne.symm hjk)]at hq
   exact t.sep k p q hp hq
  ·by_cases hk:k=i
   ·subst hk
    rw[Z3]at hq
    rw[Zaf hj]at hp
    exact Ne.symm (t.sep j q p hq hp)
   ·rw[Zaf hj]at hp
    rw[Zaf hk]at hq
    exact s.sep j k p q hjk hp hq
theorem SR.change{Z:Ent K}{F H:Hp}{σ:St}{δ:DSt}{own:Nat→Zo}{i:Nat}{sv sv':SV}{a:Addr}{o o':HO}{v:V}{ns':Zo}(s:SR Z F H σ δ own)(e:δ[i]? =some (some sv))(hv:σ[i]? =some (some v))
  (ha:(a,o)∈own i) (hs:Shape K F sv' v ns') (hns:∀p∈ns',p=(a,o')∨(p∈own i∧p.1≠a)) (nd:(adr ns').Nodup):SR Z F (upd H a o') σ (δ.set i (some sv')) (put own i ns'):=by
 obtain⟨fa,ha0,hHa⟩:=s.ok i (a,o) ha
 have hi:i<δ.length:=(List.getElem?_eq_some_iff.mp e).1
 refine⟨fun b u eb=>?_,s.fro,fun b u eb=>?_,by rw[List.length_set];exact s.len,fun j sw ej=>?_,fun j=>?_,fun j p hp=>?_,fun j k p q hjk hp hq=>?_⟩
 ·rw[Zl fun z=>by rw[z]at eb;rw[fa]at eb;cases eb];exact s.le b u eb
 ·rw[Zl fun z=>by rw[z]at eb;rw[ha0]at eb;cases eb];exact s.old b u eb
 ·by_cases hj:j=i
  ·subst hj
   rw[List.getElem?_set_self hi]at ej
   cases ej
   rw[Z3]
   exact⟨v,hv,hs⟩
  ·rw[List.getElem?_set_ne (Ne.symm hj)]at ej
   rw[Zaf hj]
   exact s.at' j sw ej
 ·by_cases hj:j=i
  ·subst hj;rw[Z3];exact nd
  ·rw[Zaf hj];exact s.nod j
 ·by_cases hj:j=i
  ·subst hj
   rw[Z3]at hp
   rcases hns p hp with z|⟨z,ne⟩
   ·subst z;exact⟨fa,ha0,Zv⟩
   ·obtain⟨x,y,w⟩:=s.ok j p z
    exact⟨x,y,by rw[Zl ne];exact w⟩
  ·rw[Zaf hj]at hp
   obtain⟨x,y,w⟩:=s.ok j p hp
   exact⟨x,y,by rw[Zl (s.sep j i p (a,o) hj hp ha)];exact w⟩
 ·have own':∀r∈ns',∃r'∈own i,r.1=r'.1:=fun r hr=>by
   rcases hns r hr with z|⟨z,_⟩
   ·subst z;exact⟨(a,o),ha,rfl⟩
   ·exact⟨r,z,rfl⟩
  by_cases hj:j=i
  ·subst hj
   rw[Z3]at hp
   rw[Zaf (Ne.symm hjk)]at hq
   obtain⟨r',hr',er⟩:=own' p hp
   rw[er]
   exact s.sep j k r' q hjk hr' hq
  ·by_cases hk:k=i
   ·subst hk
    rw[Z3]at hq
    rw[Zaf hj]at hp
    obtain⟨r',hr',er⟩:=own' q hq
    rw[er]
    exact s.sep j k p r' hjk hp hr'
   ·rw[Zaf hj]at hp
    rw[Zaf hk]at hq
    exact s.sep j k p q hjk hp hq
end DL
namespace DL
open PySem L2
variable{K:PySem.W.Frag}
noncomputable abbrev FE:=DSt→Option (RV×DSt)
noncomputable abbrev FT:=DSt→Option (Bool×DSt)
noncomputable abbrev FA:=DSt→Option (List RV×DSt)
noncomputable abbrev FD:=DSt→Option (List D×DSt)
@[simp] noncomputable def SV.nested:SV→Bool
 | .oN _ _=>true
 | .oL _ _=>true
 |_=>false
@[simp] noncomputable def rdv:RV→DSt→Option D
 | .tmp sv,_=>some sv.toD
 | .bw i,δ=>(δ[i]?.join).bind fun sv=>if sv.nested then none else some sv.toD
@[simp] noncomputable def frz:RV→DSt→Option (D×DSt)
 | .tmp sv,δ=>some (sv.toD,δ)
 | .bw i,δ=>(δ[i]?.join).bind fun sv=>some (sv.toD,δ.set i (some (.fz sv.toD)))
theorem Za5{δ:DSt}{i:Nat}{sv:SV}(h:δ[i]?.join=some sv):δ[i]? =some (some sv):=by
 cases e:δ[i]? with
 |none=>rw[e]at h;cases h
 |some o=>rw[e]at h;cases o with
  |none=>cases h
  |some s=>cases h;rfl
noncomputable def Zb(Z:Ent K)(f:FE):TE:=fun σ H Q=>∃F δ own rv δ',SR Z F H σ δ own∧f δ=some (rv,δ')∧
 ∀v H' F' own',Same H H'→Same F F'→SR Z F' H' σ δ' own'→Zix Z F' H' σ own' rv v→Q v H'
noncomputable def Z1(Z:Ent K)(f:FT):TT:=fun σ H Q=>∃F δ own b δ',SR Z F H σ δ own∧f δ=some (b,δ')∧
 ∀H' F' own',Same H H'→Same F F'→SR Z F' H' σ δ' own'→Q b H'
noncomputable def RVS(K:PySem.W.Frag)(F:Hp)(σ:St):RV→V→Prop
 | .tmp sv,v=>Rep K F sv.toD v
 | .bw i,v=>σ[i]? =some (some v)
inductive RVSs(K:PySem.W.Frag)(F:Hp)(σ:St):List RV→List V→Prop where
 |nil:RVSs K F σ [] []
 |cons {rv:RV} {v:V} {rvs:List RV} {vs:List V} (h:RVS K F σ rv v) (t:RVSs K F σ rvs vs):RVSs K F σ (rv::rvs) (v::vs)
noncomputable def Zby(Z:Ent K)(f:FA):TA:=fun σ H Q=>∃F δ own rvs δ',SR Z F H σ δ own∧f δ=some (rvs,δ')∧
 ∀vs H' F' own',Same H H'→Same F F'→SR Z F' H' σ δ' own'→RVSs K F' σ rvs vs→Q vs H'
noncomputable def Za6(Z:Ent K)(f:FD):TA:=fun σ H Q=>∃F δ own ds δ',SR Z F H σ δ own∧f δ=some (ds,δ')∧
 ∀vs H' F' own',Same H H'→Same F F'→SR Z F' H' σ δ' own'→Reps K F' ds vs→Q vs H'
section
variable{Z:Ent K}{F H F' H':Hp}{σ:St}{δ δ':DSt}{own:Nat→Zo}{rv:RV}{v:V}{d:D}{Q:VK}
theorem RVS.mono(s:Same F F')(h:RVS K F σ rv v):RVS K F' σ rv v:=by
 cases rv with
 |tmp sv=>exact Rep.mono s h
 |bw i=>exact h
theorem SR.settleR(s:SR Z F H σ δ own)(h:Zix Z F H σ own rv v):∃F1,Same F F1∧SR Z F1 H σ δ own∧RVS K F1 σ rv v:=by
 cases rv with
 |tmp sv=>obtain⟨ns,t⟩:=h;exact s.settle t
 |bw i=>exact⟨F,Same.refl F,s,h⟩
theorem SR.frzR(s:SR Z F H σ δ own)(h:RVS K F σ rv v)(e:frz rv δ=some (d,δ')):∃F1 own1,Same F F1∧SR Z F1 H σ δ' own1∧Rep K F1 d v:=by
 cases rv with
 |tmp sv=>cases e;exact⟨F,own,Same.refl F,s,h⟩
 |bw i=>
  obtain⟨sv,e1,e2⟩:=Option.bind_eq_some_iff.mp e
  cases e2
  obtain⟨F1,w,h1,h2,h3,h4⟩:=s.freeze (Za5 e1)
  have h':σ[i]? =some (some v):=h
  rw[h']at h2;cases h2
  exact⟨F1,_,h1,h4,h3⟩
noncomputable def RepN(K:PySem.W.Frag)(F H:Hp)(d:D)(v:V):Prop:=∃sv ns,sv.toD=d∧sv.nested=false∧Shape K F sv v ns∧∀p∈ns,H p.1=some p.2
theorem RepN.of(h:Rep K F d v):RepN K F H d v:=⟨.fz d,[],rfl,rfl,.fz h,fun _ h=>nomatch h⟩
theorem SR.rd(s:SR Z F H σ δ own)(h:RVS K F σ rv v)(e:rdv rv δ=some d):RepN K F H d v:=by
 cases rv with
 |tmp sv=>cases e;exact RepN.of h
 |bw i=>
  obtain⟨sv,e1,e2⟩:=Option.bind_eq_some_iff.mp e
  cases hn:sv.nested with
  |true=>rw[hn]at e2;cases e2
  |false=>
   rw[hn]at e2
   cases e2
   obtain⟨w,h1,h2⟩:=s.at' i sv (Za5 e1)
   have h':σ[i]? =some (some v):=h
   rw[h']at h1;cases h1
   exact⟨sv,own i,rfl,hn,h2,fun p hp=>(s.ok i p hp).2.2⟩
inductive RepNs(K:PySem.W.Frag)(F H:Hp):List D→List V→Prop where
 |nil:RepNs K F H [] []
 |cons {d:D} {v:V} {ds:List D} {vs:List V} (h:RepN K F H d v) (t:RepNs K F H ds vs):RepNs K F H (d::ds) (v::vs)
theorem RepN.non(h:RepN K F H .non v):v= .non:=by
 obtain⟨sv,ns,e,n,sh,hp⟩:=h
 cases sh with
 |fz r=>cases e;cases r;rfl
 |ol r=>cases e
 |oK e' r=>cases e
 |oT kb e' r=>cases e
 |oN e' r=>cases n
 |oL _ r=>cases n
 |oQ e' r=>cases e
theorem RepN.bl{b:Bool}(h:RepN K F H (.bl b) v):v= .bl b:=by
 obtain⟨sv,ns,e,n,sh,hp⟩:=h
 cases sh with
 |fz r=>cases e;cases r;rfl
 |ol r=>cases e
 |oK e' r=>cases e
 |oT kb e' r=>cases e
 |oN e' r=>cases n
 |oL _ r=>cases n
 |oQ e' r=>cases e
theorem RepN.int{i:Int}(h:RepN K F H (.int i) v):v= .int i:=by
 obtain⟨sv,ns,e,n,sh,hp⟩:=h
 cases sh with
 |fz r=>cases e;cases r;rfl
 |ol r=>cases e
 |oK e' r=>cases e
 |oT kb e' r=>cases e
 |oN e' r=>cases n
 |oL _ r=>cases n
 |oQ e' r=>cases e
theorem RepN.str{x:Str}(h:RepN K F H (.str x) v):v= .str x:=by
 obtain⟨sv,ns,e,n,sh,hp⟩:=h
 cases sh with
 |fz r=>cases e;cases r;rfl
 |ol r=>cases e
 |oK e' r=>cases e
 |oT kb e' r=>cases e
 |oN e' r=>cases n
 |oL _ r=>cases n
 |oQ e' r=>cases e
theorem RepN.tup{xs:List D}(le:Same F H)(h:RepN K F H (.tup xs) v):∃a vs,v= .ref a∧SqT K H a vs∧Reps K F xs vs:=by
 obtain⟨sv,ns,e,n,sh,hp⟩:=h
 cases sh with
 |fz r=>cases e;cases r with|tup h r=>exact⟨_,_,rfl,Zas le (Zdu h),r⟩
 |ol r=>cases e
 |oK e' r=>cases e
 |oT kb e' r=>cases e
 |oN e' r=>cases n
 |oL _ r=>cases n
 |oQ e' r=>cases e
theorem RepN.lst{xs:List D}(le:Same F H)(h:RepN K F H (.lst xs) v):∃a vs,v= .ref a∧SqL K H a vs∧Reps K F xs vs:=by
 obtain⟨sv,ns,e,n,sh,hp⟩:=h
 cases sh with
 |fz r=>cases e;cases r with|lst h r=>exact⟨_,_,rfl,Zab le h,r⟩
 |ol r=>cases e;exact⟨_,_,rfl,.inl (.inl (hp _ List.mem_cons_self)),r⟩
 |oK e' r=>cases e
 |oT kb e' r=>cases e
 |oN e' r=>cases n
 |oL _ r=>cases n
 |oQ e' r=>cases e
theorem RepN.dK{ks:List Key}{ds:List D}(le:Same F H)(h:RepN K F H (.dK ks ds) v):∃a kvs,v= .ref a∧HK H a kvs∧kvs.map (·.1)=ks∧Reps K F ds (kvs.map (·.2)):=by
 obtain⟨sv,ns,e,n,sh,hp⟩:=h
 cases sh with
 |fz r=>cases e;cases r with|dK h e r=>exact⟨_,_,rfl,⟨_,le _ _ h⟩,e,r⟩
 |ol r=>cases e
 |oK e' r=>cases e;exact⟨_,_,rfl,⟨_,hp _ List.mem_cons_self⟩,e',r⟩
 |oT kb e' r=>cases e
 |oN e' r=>cases n
 |oL _ r=>cases n
 |oQ e' r=>cases e;exact⟨_,_,rfl,⟨_,hp _ List.mem_cons_self⟩,e',r⟩
theorem RepN.dT{ks:List (List Key)}{ds:List D}(le:Same F H)(h:RepN K F H (.dT ks ds) v):∃a kvs,v= .ref a∧HTt H a kvs∧kvs.map (·.1)=ks∧Reps K F ds (kvs.map (·.2)):=by
 obtain⟨sv,ns,e,n,sh,hp⟩:=h
 cases sh with
 |fz r=>cases e;cases r with|dT h kb e r=>exact⟨_,_,rfl,⟨_,_,le _ _ h⟩,e,r⟩
 |ol r=>cases e
 |oK e' r=>cases e
 |oT kb e' r=>cases e;exact⟨_,_,rfl,⟨_,_,hp _ List.mem_cons_self⟩,e',r⟩
 |oN e' r=>cases n
 |oL _ r=>cases n
 |oQ e' r=>cases e
end
theorem nd1{a:Addr}:([a]:List Addr).Nodup:=List.nodup_cons.mpr ⟨fun h=>(nomatch h),List.nodup_nil⟩
noncomputable def Fin(Z:Ent K)(F H:Hp)(σ:St)(δ:DSt)(own:Nat→Zo)(sv:SV)(Q:VK):Prop:=
 ∀v H' F' ns,Same H H'→Same F F'→SR Z F' H' σ δ own→TmpOk Z F' H' own sv v ns→Q v H'
section
variable{Z:Ent K}{F H:Hp}{σ:St}{δ:DSt}{own:Nat→Zo}{Q:VK}
theorem Fin.fz{d:D}{v:V}(f:Fin Z F H σ δ own (.fz d) Q)(s:SR Z F H σ δ own)(h:Rep K F d v):Q v H:=f v H F [] (Same.refl H) (Same.refl F) s (.fz h)
theorem Fin.one{sv:SV}{o:HO}{p:Addr}(f:Fin Z F H σ δ own sv Q)(s:SR Z F H σ δ own)(sh:Shape K F sv (.ref p) [(p,o)])(hp:H p=none):Q (.ref p) (upd H p o):=by
 have sm:=Zbo (o:=o) hp
 refine f (.ref p) (upd H p o) F [(p,o)] sm (Same.refl F) (s.grow sm) ⟨sh,nd1,fun q hq=>?_,fun i q r hq hr=>?_⟩
 ·obtain rfl:=List.mem_singleton.mp hq
  exact⟨s.le.free hp,s.old.free hp,Zv⟩
 ·obtain rfl:=List.mem_singleton.mp hq
  intro e
  have e':p=r.1:=e
  have z:=(s.ok i r hr).2.2
  rw[←e',hp]at z;cases z
theorem Fin.lst{xs:List D}{vs:List V}{p:Addr}(f:Fin Z F H σ δ own (.ol xs) Q)(s:SR Z F H σ δ own)(r:Reps K F xs vs)(hp:H p=none):Q (.ref p) (upd H p (.lst vs)):=f.one s (.ol r) hp
theorem Fin.tup{xs:List D}{vs:List V}{p:Addr}(f:Fin Z F H σ δ own (.fz (.tup xs)) Q)(s:SR Z F H σ δ own)(r:Reps K F xs vs)(hp:H p=none):Q (.ref p) (upd H p (.tup vs)):=by
 have sm:=Zbo (o:=.tup vs) hp
 have sF:Same F (addL F [(p,.tup vs)]):=Zat fun q hq=>by obtain rfl:=List.mem_singleton.mp hq;exact s.le.free hp
 refine f (.ref p) (upd H p (.tup vs)) (addL F [(p,.tup vs)]) [] sm sF ?_ (.fz (.tup Zv (r.mono sF)))
 refine(s.grow sm).addF (nd1) (fun q hq=>?_) (fun q hq=>?_) (fun q hq=>?_) fun i q u hq hu=>?_
 ·obtain rfl:=List.mem_singleton.mp hq;exact s.le.free hp
 ·obtain rfl:=List.mem_singleton.mp hq;exact Zv
 ·obtain rfl:=List.mem_singleton.mp hq;exact s.old.free hp
 ·obtain rfl:=List.mem_singleton.mp hq
  intro e
  have e':p=u.1:=e
  have z:=(s.ok i u hu).2.2
  rw[←e',hp]at z;cases z
end
theorem Zb6{F:Hp}{d:D}{v:V}{ns:Zo}(h:Shape K F (.fz d) v ns):Rep K F d v:=by
 cases h with
 |fz r=>exact r
section
variable{Z:Ent K}{H:Hp}{σ:St}{Q:VK}
@[simp] noncomputable def Zc(i:Nat):FE:=fun δ=>match δ[i]? with
 |some (some (.fz d))=>some (.tmp (.fz d),δ)
 |some (some _)=>some (.bw i,δ)
 |_=>none
theorem Zvd{i:Nat}(h:Zb Z (Zc i) σ H Q):tVar i σ H Q:=by
 obtain⟨F,δ,own,rv,δ',s,e,k⟩:=h
 unfold Zc at e
 split at e
 ·rename_i d hd
  cases e
  obtain⟨v,h1,h2⟩:=s.at' i _ hd
  exact⟨v,h1,k v H F own (Same.refl H) (Same.refl F) s ⟨[],.fz (Zb6 h2)⟩⟩
 ·rename_i sv hsv hd
  cases e
  obtain⟨v,h1,h2⟩:=s.at' i _ hd
  exact⟨v,h1,k v H F own (Same.refl H) (Same.refl F) s h1⟩
 ·cases e
@[simp] noncomputable def Zf(d:D):FE:=fun δ=>some (.tmp (.fz d),δ)
theorem Zeh{d:D}{v:V}(hr:∀F,Rep K F d v)(h:Zb Z (Zf d) σ H Q):tC v σ H Q:=by
 obtain⟨F,δ,own,rv,δ',s,e,k⟩:=h
 cases e
 exact k v H F own (Same.refl H) (Same.refl F) s ⟨[],.fz (hr F)⟩
@[simp] noncomputable def Zk:FA:=fun δ=>some ([],δ)
@[simp] noncomputable def Za(fe:FE)(fa:FA):FA:=fun δ=>(fe δ).bind fun p=>(fa p.2).bind fun q=>some (p.1::q.1,q.2)
theorem Zmk{R:List V→Hp→Prop}(h:Zby Z Zk σ H R):tNil σ H R:=by
 obtain⟨F,δ,own,rvs,δ',s,e,k⟩:=h
 cases e
 exact k [] H F own (Same.refl H) (Same.refl F) s .nil
theorem Zj9{fe:FE}{fa:FA}{R:List V→Hp→Prop}(h:Zby Z (Za fe fa) σ H R):Zme (Zb Z fe) (Zby Z fa) σ H R:=by
 obtain⟨F,δ,own,rvs,δ',s,e,k⟩:=h
 obtain⟨⟨rv,δ1⟩,e1,e2⟩:=Option.bind_eq_some_iff.mp e
 obtain⟨⟨rr,δ2⟩,e3,e4⟩:=Option.bind_eq_some_iff.mp e2
 cases e4
 refine⟨F,δ,own,rv,δ1,s,e1,fun v H1 F1 own1 sH sF s1 r1=>?_⟩
 obtain⟨F2,sF2,s2,r2⟩:=s1.settleR r1
 exact⟨F2,δ1,own1,rr,δ2,s2,e3,fun vs H3 F3 own3 sH3 sF3 s3 r3=>k _ H3 F3 own3 (sH.trans sH3) (sF.trans (sF2.trans sF3)) s3 (.cons (r2.mono sF3) r3)⟩
@[simp] noncomputable def Zbg:List RV→DSt→Option (List D)
 | [],_=>some []
 |rv::r,δ=>(rdv rv δ).bind fun d=>(Zbg r δ).bind fun ds=>some (d::ds)
theorem SR.rdAll{F:Hp}{δ:DSt}{own:Nat→Zo}(s:SR Z F H σ δ own):∀{rvs:List RV} {vs:List V} {ds:List D},RVSs K F σ rvs vs→Zbg rvs δ=some ds→RepNs K F H ds vs
 |_,_,_,.nil,e=>by cases e;exact .nil
 |_,_,_,.cons h t,e=>by
  obtain⟨d,e1,e2⟩:=Option.bind_eq_some_iff.mp e
  obtain⟨ds,e3,e4⟩:=Option.bind_eq_some_iff.mp e2
  cases e4
  exact .cons (s.rd h e1) (s.rdAll t e3)
@[simp] noncomputable def Zaw(g:List D→Option SV)(fa:FA):FE:=fun δ=>(fa δ).bind fun p=>(Zbg p.1 p.2).bind fun ds=>(g ds).bind fun sv=>some (.tmp sv,p.2)
noncomputable def Zdv(Z:Ent K)(r:List V→Hp→VK→Prop)(g:List D→Option SV):Prop:=
 ∀(F H:Hp) (σ:St) (δ:DSt) (own:Nat→Zo) (vs:List V) (ds:List D) (sv:SV) (Q:VK),SR Z F H σ δ own→RepNs K F H ds vs→g ds=some sv→Fin Z F H σ δ own sv Q→r vs H Q
theorem Zka{r:List V→Hp→VK→Prop}{g:List D→Option SV}{fa:FA}(hg:Zdv Z r g)(h:Zb Z (Zaw g fa) σ H Q):tCB r (Zby Z fa) σ H Q:=by
 obtain⟨F,δ,own,rv,δ',s,e,k⟩:=h
 obtain⟨⟨rvs,δ1⟩,e1,e2⟩:=Option.bind_eq_some_iff.mp e
 obtain⟨ds,e3,e4⟩:=Option.bind_eq_some_iff.mp e2
 obtain⟨sv,e5,e6⟩:=Option.bind_eq_some_iff.mp e4
 cases e6
 refine⟨F,δ,own,rvs,δ1,s,e1,fun vs H1 F1 own1 sH sF s1 r1=>?_⟩
 exact hg F1 H1 σ δ1 own1 vs ds sv Q s1 (s1.rdAll r1 e3) e5 fun v H2 F2 ns sH2 sF2 s2 t=>k v H2 F2 own1 (sH.trans sH2) (sF.trans sF2) s2 ⟨ns,t⟩
@[simp] noncomputable def g2(g:D→D→Option SV):List D→Option SV
 | [x,y]=>g x y
 |_=>none
@[simp] noncomputable def binF(g:D→D→Option SV)(fa fb:FE):FE:=Zaw (g2 g) (Za fa (Za fb Zk))
noncomputable def Za0(Z:Ent K)(r:R2)(g:D→D→Option SV):Prop:=
 ∀(F H:Hp) (σ:St) (δ:DSt) (own:Nat→Zo) (x y:V) (d1 d2:D) (sv:SV) (Q:VK),SR Z F H σ δ own→RepN K F H d1 x→RepN K F H d2 y→g d1 d2=some sv→Fin Z F H σ δ own sv Q→r x y H Q
theorem Zkb{r:R2}{g:D→D→Option SV}{fa fb:FE}(hg:Za0 Z r g)(h:Zb Z (binF g fa fb) σ H Q):tOp r (Zb Z fa) (Zb Z fb) σ H Q:=by
 have hN:Zdv Z (fun vs H Q=>∃x y,vs=[x,y]∧r x y H Q) (g2 g):=by
  intro F H σ δ own vs ds sv Q s rs e f
  cases rs with
  |nil=>cases e
  |cons h1 t1=>
   cases t1 with
   |nil=>cases e
   |cons h2 t2=>
    cases t2 with
    |nil=>exact⟨_,_,rfl,hg F H σ δ own _ _ _ _ sv Q s h1 h2 e f⟩
    |cons h3 t3=>cases e
 obtain⟨F,δ,own,rv,δ',s,e,k⟩:=Zka hN h
 obtain⟨⟨rv1,δ1⟩,e1,e2⟩:=Option.bind_eq_some_iff.mp e
 obtain⟨⟨rr,δ2⟩,e3,e4⟩:=Option.bind_eq_some_iff.mp e2
 cases e4
 obtain⟨⟨rv2,δ3⟩,e5,e6⟩:=Option.bind_eq_some_iff.mp e3
 obtain⟨⟨rr',δ4⟩,e7,e8⟩:=Option.bind_eq_some_iff.mp e6
 cases e8
 cases e7
 refine⟨F,δ,own,rv1,δ1,s,e1,fun v H1 F1 own1 sH sF s1 r1=>?_⟩
 obtain⟨F2,sF2,s2,r2⟩:=s1.settleR r1
 refine⟨F2,δ1,own1,rv2,δ3,s2,e5,fun u H3 F3 own3 sH3 sF3 s3 r3=>?_⟩
 obtain⟨F4,sF4,s4,r4⟩:=s3.settleR r3
 obtain⟨x,y,exy,q⟩:=k [v,u] H3 F4 own3 (sH.trans sH3) (sF.trans (sF2.trans (sF3.trans sF4))) s4 (.cons (r2.mono (sF3.trans sF4)) (.cons r4 .nil))
 injection exy with ex ey
 injection ey with ey _
 subst ex ey
 exact q
@[simp] noncomputable def unF(g:D→Option SV)(fa:FE):FE:=Zaw (fun| [x]=>g x|_=>none) (Za fa Zk)
noncomputable def Zpa(Z:Ent K)(r:V→Hp→VK→Prop)(g:D→Option SV):Prop:=
 ∀(F H:Hp) (σ:St) (δ:DSt) (own:Nat→Zo) (x:V) (d:D) (sv:SV) (Q:VK),SR Z F H σ δ own→RepN K F H d x→g d=some sv→Fin Z F H σ δ own sv Q→r x H Q
theorem l_un{r:V→Hp→VK→Prop}{g:D→Option SV}{fa:FE}(hg:Zpa Z r g)(h:Zb Z (unF g fa) σ H Q):tUn r (Zb Z fa) σ H Q:=by
 obtain⟨F,δ,own,rv,δ',s,e,k⟩:=h
 obtain⟨⟨rvs,δ1⟩,e1,e2⟩:=Option.bind_eq_some_iff.mp e
 obtain⟨ds,e3,e4⟩:=Option.bind_eq_some_iff.mp e2
 obtain⟨sv,e5,e6⟩:=Option.bind_eq_some_iff.mp e4
 cases e6
 obtain⟨⟨rv1,δ2⟩,e7,e8⟩:=Option.bind_eq_some_iff.mp e1
 obtain⟨⟨rr',δ4⟩,e9,e10⟩:=Option.bind_eq_some_iff.mp e8
 cases e10
 cases e9
 obtain⟨d,e11,e12⟩:=Option.bind_eq_some_iff.mp e3
 cases e12
 refine⟨F,δ,own,rv1,δ2,s,e7,fun v H1 F1 own1 sH sF s1 r1=>?_⟩
 obtain⟨F2,sF2,s2,r2⟩:=s1.settleR r1
 exact hg F2 H1 σ δ2 own1 v d sv Q s2 (s2.rd r2 e11) e5 fun v H2 F2' ns sH2 sF2' s2 t=>k v H2 F2' own1 (sH.trans sH2) (sF.trans (sF2.trans sF2')) s2 ⟨ns,t⟩
@[simp] noncomputable def Zp:FD:=fun δ=>some ([],δ)
@[simp] noncomputable def Ze(fe:FE)(fd:FD):FD:=fun δ=>(fe δ).bind fun p=>(frz p.1 p.2).bind fun q=>(fd q.2).bind fun r=>some (q.1::r.1,r.2)
theorem Zkc{R:List V→Hp→Prop}(h:Za6 Z Zp σ H R):tNil σ H R:=by
 obtain⟨F,δ,own,rvs,δ',s,e,k⟩:=h
 cases e
 exact k [] H F own (Same.refl H) (Same.refl F) s .nil
theorem Ziy{fe:FE}{fd:FD}{R:List V→Hp→Prop}(h:Za6 Z (Ze fe fd) σ H R):Zme (Zb Z fe) (Za6 Z fd) σ H R:=by
 obtain⟨F,δ,own,rvs,δ',s,e,k⟩:=h
 obtain⟨⟨rv,δ1⟩,e1,e2⟩:=Option.bind_eq_some_iff.mp e
 obtain⟨⟨d,δ2⟩,e3,e4⟩:=Option.bind_eq_some_iff.mp e2
 obtain⟨⟨ds,δ3⟩,e5,e6⟩:=Option.bind_eq_some_iff.mp e4
 cases e6
 refine⟨F,δ,own,rv,δ1,s,e1,fun v H1 F1 own1 sH sF s1 r1=>?_⟩
 obtain⟨F2,sF2,s2,r2⟩:=s1.settleR r1
 obtain⟨F3,own3,sF3,s3,r3⟩:=s2.frzR r2 e3
 exact⟨F3,δ2,own3,ds,δ3,s3,e5,fun vs H4 F4 own4 sH4 sF4 s4 r4=>k _ H4 F4 own4 (sH.trans sH4) (sF.trans (sF2.trans (sF3.trans sF4))) s4 (.cons (r3.mono sF4) r4)⟩
@[simp] noncomputable def tupF(fd:FD):FE:=fun δ=>(fd δ).bind fun p=>if p.1.length≤PySem.sizeLine then some (.tmp (.fz (.tup p.1)),p.2)else none
@[simp] noncomputable def lstF(fd:FD):FE:=fun δ=>(fd δ).bind fun p=>if p.1.length≤PySem.sizeLine then some (.tmp (.ol p.1),p.2)else none
theorem Zve{fd:FD}(h:Zb Z (tupF fd) σ H Q):tTup (Za6 Z fd) σ H Q:=by
 obtain⟨F,δ,own,rv,δ',s,e,k⟩:=h
 obtain⟨⟨ds,δ1⟩,e1,e2⟩:=Option.bind_eq_some_iff.mp e
 by_cases hz:ds.length≤PySem.sizeLine
 ·rw[if_pos hz]at e2
  cases e2
  refine⟨F,δ,own,ds,δ1,s,e1,fun vs H1 F1 own1 sH sF s1 r1=>⟨by rw[←r1.length];exact hz,fun p hp=>?_⟩⟩
  exact Fin.tup (fun v H2 F2 ns a b c t=>k v H2 F2 own1 (sH.trans a) (sF.trans b) c ⟨ns,t⟩) s1 r1 hp
 ·rw[if_neg hz]at e2;cases e2
theorem Zvf{fd:FD}(h:Zb Z (lstF fd) σ H Q):tLst (Za6 Z fd) σ H Q:=by
 obtain⟨F,δ,own,rv,δ',s,e,k⟩:=h
 obtain⟨⟨ds,δ1⟩,e1,e2⟩:=Option.bind_eq_some_iff.mp e
 by_cases hz:ds.length≤PySem.sizeLine
 ·rw[if_pos hz]at e2
  cases e2
  refine⟨F,δ,own,ds,δ1,s,e1,fun vs H1 F1 own1 sH sF s1 r1=>⟨by rw[←r1.length];exact hz,fun p hp=>?_⟩⟩
  exact Fin.lst (fun v H2 F2 ns a b c t=>k v H2 F2 own1 (sH.trans a) (sF.trans b) c ⟨ns,t⟩) s1 r1 hp
 ·rw[if_neg hz]at e2;cases e2
end
@[simp] noncomputable def SV.scal:SV→Bool
 | .fz .non=>true
 | .fz (.bl _)=>true
 | .fz (.int _)=>true
 | .fz (.str _)=>true
 |_=>false
noncomputable def spOf(K:PySem.W.Frag)(n:Nat)(g:List D→Option SV):Sp:=fun vs H Q _=>∃F ds sv,Same F H∧Reps K F ds vs∧ds.length=n∧g ds=some sv∧
 ∀v H' F' ns,Same H H'→Same F F'→Same F' H'→(∀(b:Addr) (o:HO),F' b=some o→F b=some o∨H b=none)→Shape K F' sv v ns→(adr ns).Nodup→(∀p∈ns,F' p.1=none∧H p.1=none∧H' p.1=some p.2)→Q v H'
@[simp] noncomputable def frzAll:List RV→DSt→Option (List D×DSt)
 | [],δ=>some ([],δ)
 |rv::r,δ=>(frz rv δ).bind fun p=>(frzAll r p.2).bind fun q=>some (p.1::q.1,q.2)
theorem RVSs.mono{F F':Hp}{σ:St}(s:Same F F'){rvs:List RV}{vs:List V}(h:RVSs K F σ rvs vs):RVSs K F' σ rvs vs:=by
 induction h with
 |nil=>exact .nil
 |cons h _ ih=>exact .cons (h.mono s) ih
section
variable{Z:Ent K}{H:Hp}{σ:St}{Q:VK}
theorem SR.frzAll{F:Hp}{δ:DSt}{own:Nat→Zo}:∀{rvs:List RV} {vs:List V} {ds:List D} {δ':DSt} {F:Hp} {δ:DSt} {own:Nat→Zo},SR Z F H σ δ own→RVSs K F σ rvs vs→DL.frzAll rvs δ=some (ds,δ')→
  ∃F1 own1,Same F F1∧SR Z F1 H σ δ' own1∧Reps K F1 ds vs
 |_,_,_,_,F,_,own,s,.nil,e=>by cases e;exact⟨F,own,Same.refl F,s,.nil⟩
 |_,_,_,_,F,_,own,s,.cons h t,e=>by
  obtain⟨⟨d,δ1⟩,e1,e2⟩:=Option.bind_eq_some_iff.mp e
  obtain⟨⟨ds,δ2⟩,e3,e4⟩:=Option.bind_eq_some_iff.mp e2
  cases e4
  obtain⟨F1,own1,sF1,s1,r1⟩:=s.frzR h e1
  obtain⟨F2,own2,sF2,s2,r2⟩:=SR.frzAll (own:=own) (F:=F) (δ:=δ1) s1 (t.mono sF1) e3
  exact⟨F2,own2,sF1.trans sF2,s2,.cons (r1.mono sF2) r2⟩
@[simp] noncomputable def Zao(n:Nat)(g:List D→Option SV)(fa:FA):FE:=fun δ=>(fa δ).bind fun p=>(DL.frzAll p.1 p.2).bind fun q=>if q.1.length=n then(g q.1).bind fun sv=>some (.tmp sv,if sv.scal then p.2 else q.2)else none
theorem Zml{F F':Hp}{sv:SV}{v:V}{ns:Zo}(h:sv.scal=true)(sh:Shape K F sv v ns):ns=[]∧Shape K F' sv v []:=by
 cases sh with
 |fz r=>
  refine⟨rfl,.fz ?_⟩
  cases r with
  |non=>exact .non
  |bl b=>exact .bl b
  |int i=>exact .int i
  |str x=>exact .str x
  |tup _ _=>cases h
  |lst _ _=>cases h
  |dK _ _ _=>cases h
  |dT _ _ _ _=>cases h
  |exc _ _=>cases h
  |exd _ _ _ _ _=>cases h
 |ol _=>cases h
 |oK _ _=>cases h
 |oT _ _ _=>cases h
 |oN _ _=>cases h
 |oL _ _=>cases h
 |oQ _ _=>cases h
theorem Znx{n:Nat}{g:List D→Option SV}{fa:FA}{E:XK}(h:Zb Z (Zao n g fa) σ H Q):Zov (spOf K n g) [] E (Zby Z fa) σ H Q:=by
 obtain⟨F,δ,own,rv,δ',s,e,k⟩:=h
 obtain⟨⟨rvs,δ1⟩,e1,e2⟩:=Option.bind_eq_some_iff.mp e
 obtain⟨⟨ds,δ2⟩,e3,e4⟩:=Option.bind_eq_some_iff.mp e2
 by_cases hn:ds.length=n
 ·rw[if_pos hn]at e4
  obtain⟨sv,e5,e6⟩:=Option.bind_eq_some_iff.mp e4
  refine⟨F,δ,own,rvs,δ1,s,e1,fun vs H1 F1 own1 sH sF s1 r1=>?_⟩
  obtain⟨F2,own2,sF2,s2,r2⟩:=s1.frzAll (own:=own) (F:=F) (δ:=δ) r1 e3
  rw[List.append_nil]
  refine⟨F2,ds,sv,s2.le,r2,hn,e5,fun v H3 F3 ns sH3 sF3 le3 fro3 sh nd ok=>?_⟩
  by_cases hs:sv.scal=true
  ·rw[if_pos hs]at e6
   cases e6
   obtain⟨_,sh'⟩:=Zml (F':=F1) hs sh
   exact k v H3 F1 own1 (sH.trans sH3) sF (s1.grow sH3) ⟨[],sh',List.nodup_nil,fun _ h=>(nomatch h),fun _ _ _ h=>(nomatch h)⟩
  ·rw[if_neg hs]at e6
   cases e6
   have s3:SR Z F3 H3 σ δ2 own2:=by
    refine⟨le3,fun b o e=>?_,s2.old.trans sH3,s2.len,fun i sw ei=>?_,s2.nod,fun i p hp=>?_,s2.sep⟩
    ·rcases fro3 b o e with z|z
     ·exact s2.fro b o z
     ·exact .inr (s2.old.free z)
    ·obtain⟨w,h1,h2⟩:=s2.at' i sw ei
     exact⟨w,h1,h2.mono sF3⟩
    ·obtain⟨a,b,c⟩:=s2.ok i p hp
     refine⟨?_,b,sH3 _ _ c⟩
     cases z:F3 p.1 with
     |none=>rfl
     |some u=>
      rcases fro3 _ u z with y|y
      ·rw[a]at y;cases y
      ·rw[c]at y;cases y
   exact k v H3 F3 own2 (sH.trans sH3) (sF.trans (sF2.trans sF3)) s3 ⟨ns,sh,nd,fun p hp=>⟨(ok p hp).1,(s2.old).free (ok p hp).2.1,(ok p hp).2.2⟩,fun i p q hp hq e=>by
    have z:=(s2.ok i q hq).2.2
    rw[←e,(ok p hp).2.1]at z;cases z⟩
 ·rw[if_neg hn]at e4;cases e4
end
end DL
namespace DL
open PySem L2
variable{K:PySem.W.Frag}
section
variable{Z:Ent K}{H:Hp}{σ:St}{R:Bool→Hp→Prop}{Q:VK}
@[simp] noncomputable def Z9(fe:FE):FT:=fun δ=>(fe δ).bind fun p=>match p.1 with
 | .tmp (.fz (.bl b))=>some (b,p.2)
 |_=>none
theorem Zkd{fe:FE}(h:Z1 Z (Z9 fe) σ H R):Zrg (Zb Z fe) σ H R:=by
 obtain⟨F,δ,own,b,δ',s,e,k⟩:=h
 obtain⟨⟨rv,δ1⟩,e1,e2⟩:=Option.bind_eq_some_iff.mp e
 refine⟨F,δ,own,rv,δ1,s,e1,fun v H1 F1 own1 sH sF s1 r1=>?_⟩
 dsimp only at e2
 split at e2
 ·cases e2
  obtain⟨ns,t⟩:=r1
  cases Zb6 t.sh
  exact⟨_,rfl,k H1 F1 own1 sH sF s1⟩
 ·cases e2
theorem Zpb{fe:FE}(h:Z1 Z (Z9 fe) σ H R):tB (Zb Z fe) σ H R:=Zkd h
@[simp] noncomputable def andF(f g:FT):FT:=fun δ=>(f δ).bind fun p=>if p.1=true then g p.2 else some (false,p.2)
@[simp] noncomputable def orF(f g:FT):FT:=fun δ=>(f δ).bind fun p=>if p.1=true then some (true,p.2)else g p.2
@[simp] noncomputable def notF(f:FT):FT:=fun δ=>(f δ).bind fun p=>some (!p.1,p.2)
theorem Zvg{f g:FT}(h:Z1 Z (andF f g) σ H R):tAnd (Z1 Z f) (Z1 Z g) σ H R:=by
 obtain⟨F,δ,own,b,δ',s,e,k⟩:=h
 obtain⟨⟨c,δ1⟩,e1,e2⟩:=Option.bind_eq_some_iff.mp e
 refine⟨F,δ,own,c,δ1,s,e1,fun H1 F1 own1 sH sF s1=>?_⟩
 cases c with
 |true=>
  rw[if_pos rfl]at e2⊢
  exact⟨F1,δ1,own1,b,δ',s1,e2,fun H2 F2 own2 a c d=>k H2 F2 own2 (sH.trans a) (sF.trans c) d⟩
 |false=>
  rw[if_neg Bool.false_ne_true]at e2⊢
  cases e2
  exact k H1 F1 own1 sH sF s1
theorem l_or{f g:FT}(h:Z1 Z (orF f g) σ H R):tOr (Z1 Z f) (Z1 Z g) σ H R:=by
 obtain⟨F,δ,own,b,δ',s,e,k⟩:=h
 obtain⟨⟨c,δ1⟩,e1,e2⟩:=Option.bind_eq_some_iff.mp e
 refine⟨F,δ,own,c,δ1,s,e1,fun H1 F1 own1 sH sF s1=>?_⟩
 cases c with
 |true=>
  rw[if_pos rfl]at e2⊢
  cases e2
  exact k H1 F1 own1 sH sF s1
 |false=>
  rw[if_neg Bool.false_ne_true]at e2⊢
  exact⟨F1,δ1,own1,b,δ',s1,e2,fun H2 F2 own2 a c d=>k H2 F2 own2 (sH.trans a) (sF.trans c) d⟩
theorem Zvh{f:FT}(h:Z1 Z (notF f) σ H R):tNot (Z1 Z f) σ H R:=by
 obtain⟨F,δ,own,b,δ',s,e,k⟩:=h
 obtain⟨⟨c,δ1⟩,e1,e2⟩:=Option.bind_eq_some_iff.mp e
 cases e2
 exact⟨F,δ,own,c,δ1,s,e1,k⟩
@[simp] noncomputable def andV(f g:FE):FE:=fun δ=>(Z9 f δ).bind fun p=>if p.1=true then g p.2 else some (.tmp (.fz (.bl false)),p.2)
@[simp] noncomputable def orV(f g:FE):FE:=fun δ=>(Z9 f δ).bind fun p=>if p.1=true then some (.tmp (.fz (.bl true)),p.2)else g p.2
@[simp] noncomputable def notV(f:FE):FE:=fun δ=>(Z9 f δ).bind fun p=>some (.tmp (.fz (.bl (!p.1))),p.2)
theorem Zvi{F:Hp}{own:Nat→Zo}{b:Bool}:Zix Z F H σ own (.tmp (.fz (.bl b))) (.bl b):=⟨[],.fz (.bl b)⟩
theorem Zr2{f g:FE}(h:Zb Z (andV f g) σ H Q):Zqz (Zb Z f) (Zb Z g) σ H Q:=by
 obtain⟨F,δ,own,rv,δ',s,e,k⟩:=h
 obtain⟨⟨c,δ1⟩,e1,e2⟩:=Option.bind_eq_some_iff.mp e
 refine Zkd ⟨F,δ,own,c,δ1,s,e1,fun H1 F1 own1 sH sF s1=>?_⟩
 cases c with
 |true=>
  rw[if_pos rfl]at e2⊢
  exact⟨F1,δ1,own1,rv,δ',s1,e2,fun v H2 F2 own2 a c d=>k v H2 F2 own2 (sH.trans a) (sF.trans c) d⟩
 |false=>
  rw[if_neg Bool.false_ne_true]at e2⊢
  cases e2
  exact k _ H1 F1 own1 sH sF s1 Zvi
@[simp] noncomputable def ifF(t:FT)(f g:FE):FE:=fun δ=>(t δ).bind fun p=>if p.1=true then f p.2 else g p.2
theorem l_if{t:FT}{f g:FE}(h:Zb Z (ifF t f g) σ H Q):tIf (Z1 Z t) (Zb Z f) (Zb Z g) σ H Q:=by
 obtain⟨F,δ,own,rv,δ',s,e,k⟩:=h
 obtain⟨⟨c,δ1⟩,e1,e2⟩:=Option.bind_eq_some_iff.mp e
 refine⟨F,δ,own,c,δ1,s,e1,fun H1 F1 own1 sH sF s1=>?_⟩
 cases c with
 |true=>
  rw[if_pos rfl]at e2⊢
  exact⟨F1,δ1,own1,rv,δ',s1,e2,fun v H2 F2 own2 a c d=>k v H2 F2 own2 (sH.trans a) (sF.trans c) d⟩
 |false=>
  rw[if_neg Bool.false_ne_true]at e2⊢
  exact⟨F1,δ1,own1,rv,δ',s1,e2,fun v H2 F2 own2 a c d=>k v H2 F2 own2 (sH.trans a) (sF.trans c) d⟩
@[simp] noncomputable def Zxw(g g':D→D→Option SV)(fa fb fc:FE):FE:=fun δ=>(fa δ).bind fun p=>(fb p.2).bind fun q=>(rdv p.1 q.2).bind fun x=>(rdv q.1 q.2).bind fun y=>(g x y).bind fun
 | .fz (.bl true)=>(fc q.2).bind fun r=>(rdv q.1 r.2).bind fun y'=>(rdv r.1 r.2).bind fun z=>(g' y' z).bind fun sv=>some (.tmp sv,r.2)
 | .fz (.bl false)=>some (.tmp (.fz (.bl false)),q.2)
 |_=>none
end
inductive Fl where
 |nx (δ:DSt)|bk (δ:DSt)|ct (δ:DSt)|rt (sv:SV)|ex (e:Exn) (δ:DSt)
noncomputable abbrev FS:=DSt→Option Fl
noncomputable def Zhw(Z:Ent K)(F:Hp)(D:Ends):Fl→Prop
 | .nx δ=>∀σ' H' F' own',Same F F'→SR Z F' H' σ' δ own'→D.nx σ' H'
 | .bk δ=>∀σ' H' F' own',Same F F'→SR Z F' H' σ' δ own'→D.bk σ' H'
 | .ct δ=>∀σ' H' F' own',Same F F'→SR Z F' H' σ' δ own'→D.ct σ' H'
 | .rt sv=>∀v H' F' ns,Same F F'→Same F' H'→(∀(b:Addr) (o:HO),F' b=some o→Z.f b=some o∨Z.h b=none)→Same Z.h H'→Shape K F' sv v ns→(adr ns).Nodup→
   (∀p∈ns,F' p.1=none∧Z.h p.1=none∧H' p.1=some p.2)→D.rt v H'
 | .ex x δ=>∀σ' H' F' own' cls od,Same F F'→SR Z F' H' σ' δ own'→Zhv K F' x cls od→Z.x cls od σ' H'
theorem Zhw.mono{Z:Ent K}{F F':Hp}{D:Ends}(s:Same F F'):∀{fl:Fl},Zhw Z F D fl→Zhw Z F' D fl
 | .nx _,h=>fun σ' H' F2 own' a b=>h σ' H' F2 own' (s.trans a) b
 | .bk _,h=>fun σ' H' F2 own' a b=>h σ' H' F2 own' (s.trans a) b
 | .ct _,h=>fun σ' H' F2 own' a b=>h σ' H' F2 own' (s.trans a) b
 | .rt _,h=>fun v H' F2 ns a=>h v H' F2 ns (s.trans a)
 | .ex _ _,h=>fun σ' H' F2 own' cls od a=>h σ' H' F2 own' cls od (s.trans a)
noncomputable def Z0(Z:Ent K)(f:FS):TS:=fun D σ H=>∃F δ own fl,SR Z F H σ δ own∧f δ=some fl∧Zhw Z F D fl
section
variable{Z:Ent K}{H:Hp}{σ:St}{E:Ends}
@[simp] noncomputable def Zei:FS:=fun δ=>some (.nx δ)
@[simp] noncomputable def Zxx:FS:=fun δ=>some (.bk δ)
@[simp] noncomputable def Zzh:FS:=fun δ=>some (.ct δ)
theorem Zr3(h:Z0 Z Zei E σ H):Zq2 E σ H:=by
 obtain⟨F,δ,own,fl,s,e,k⟩:=h
 cases e
 exact k σ H F own (Same.refl F) s
@[simp] noncomputable def seqF(f g:FS):FS:=fun δ=>(f δ).bind fun
 | .nx δ'=>g δ'
 |fl=>some fl
theorem Zvj{f g:FS}(h:Z0 Z (seqF f g) E σ H):tSeq (Z0 Z f) (Z0 Z g) E σ H:=by
 obtain⟨F,δ,own,fl,s,e,k⟩:=h
 obtain⟨f1,e1,e2⟩:=Option.bind_eq_some_iff.mp e
 refine⟨F,δ,own,f1,s,e1,?_⟩
 cases f1 with
 |nx δ1=>exact fun σ' H' F' own' sF s'=>⟨F',δ1,own',fl,s',e2,k.mono sF⟩
 |bk δ1=>cases e2;exact k
 |ct δ1=>cases e2;exact k
 |rt sv=>cases e2;exact k
 |ex x δ1=>cases e2;exact k
@[simp] noncomputable def ifS(t:FT)(f g:FS):FS:=fun δ=>(t δ).bind fun p=>if p.1=true then f p.2 else g p.2
theorem Zvk{t:FT}{f g:FS}(h:Z0 Z (ifS t f g) E σ H):tIfS (Z1 Z t) (Z0 Z f) (Z0 Z g) E σ H:=by
 obtain⟨F,δ,own,fl,s,e,k⟩:=h
 obtain⟨⟨c,δ1⟩,e1,e2⟩:=Option.bind_eq_some_iff.mp e
 refine⟨F,δ,own,c,δ1,s,e1,fun H1 F1 own1 sH sF s1=>?_⟩
 cases c with
 |true=>rw[if_pos rfl]at e2⊢;exact⟨F1,δ1,own1,fl,s1,e2,k.mono sF⟩
 |false=>rw[if_neg Bool.false_ne_true]at e2⊢;exact⟨F1,δ1,own1,fl,s1,e2,k.mono sF⟩
@[simp] noncomputable def Zzi(fe:FE):FS:=fun δ=>(fe δ).bind fun p=>some (.nx p.2)
@[simp] noncomputable def outF:RV→DSt→Option SV
 | .tmp sv,_=>some sv
 | .bw i,δ=>δ[i]?.join
@[simp] noncomputable def retF(fe:FE):FS:=fun δ=>(fe δ).bind fun p=>(outF p.1 p.2).bind fun sv=>some (.rt sv)
theorem Zvl{fe:FE}(h:Z0 Z (retF fe) E σ H):tRet (Zb Z fe) E σ H:=by
 obtain⟨F,δ,own,fl,s,e,k⟩:=h
 obtain⟨⟨rv,δ1⟩,e1,e2⟩:=Option.bind_eq_some_iff.mp e
 obtain⟨sv,e3,e4⟩:=Option.bind_eq_some_iff.mp e2
 cases e4
 refine⟨F,δ,own,rv,δ1,s,e1,fun v H1 F1 own1 sH sF s1 r1=>?_⟩
 cases rv with
 |tmp sw=>
  cases e3
  obtain⟨ns,t⟩:=r1
  exact k v H1 F1 ns sF s1.le s1.fro s1.old t.sh t.nd t.ok
 |bw i=>
  obtain⟨w,h1,h2⟩:=s1.at' i sv (Za5 e3)
  have r1':σ[i]? =some (some v):=r1
  rw[r1']at h1;cases h1
  exact k v H1 F1 (own1 i) sF s1.le s1.fro s1.old h2 (s1.nod i) (s1.ok i)
@[simp] noncomputable def retN:FS:=fun δ=>some (.rt (.fz .non))
@[simp] noncomputable def stow(i:Nat):RV→DSt→Option DSt
 | .tmp sv,δ=>if i<δ.length then some (δ.set i (some sv))else none
 | .bw j,δ=>(frz (.bw j) δ).bind fun p=>if i<p.2.length then some (p.2.set i (some (.fz p.1)))else none
theorem SR.stow{F:Hp}{δ δ':DSt}{own:Nat→Zo}{i:Nat}{rv:RV}{v:V}(s:SR Z F H σ δ own)(r:Zix Z F H σ own rv v)(e:DL.stow i rv δ=some δ'):∃F' own',Same F F'∧SR Z F' H (σ.set i (some v)) δ' own':=by
 cases rv with
 |tmp sv=>
  obtain⟨ns,t⟩:=r
  have e:(if i<δ.length then some (δ.set i (some sv))else none)=some δ':=e
  by_cases hi:i<δ.length
  ·rw[if_pos hi]at e;cases e
   exact⟨F,_,Same.refl F,s.store t (by rw[s.len];exact hi)⟩
  ·rw[if_neg hi]at e;cases e
 |bw j=>
  obtain⟨⟨d,δ1⟩,e1,e2⟩:=Option.bind_eq_some_iff.mp e
  obtain⟨F1,own1,sF,s1,r1⟩:=s.frzR (rv:=.bw j) (v:=v) r e1
  by_cases hi:i<δ1.length
  ·rw[if_pos hi]at e2;cases e2
   exact⟨F1,_,sF,s1.store (.fz r1) (by rw[s1.len];exact hi)⟩
  ·rw[if_neg hi]at e2;cases e2
@[simp] noncomputable def setF(i:Nat)(fe:FE):FS:=fun δ=>(fe δ).bind fun p=>(stow i p.1 p.2).bind fun δ'=>some (.nx δ')
theorem Zr4{i:Nat}{fe:FE}(h:Z0 Z (setF i fe) E σ H):tAsg (Zb Z fe) (Zir i) E σ H:=by
 obtain⟨F,δ,own,fl,s,e,k⟩:=h
 obtain⟨⟨rv,δ1⟩,e1,e2⟩:=Option.bind_eq_some_iff.mp e
 obtain⟨δ2,e3,e4⟩:=Option.bind_eq_some_iff.mp e2
 cases e4
 refine⟨F,δ,own,rv,δ1,s,e1,fun v H1 F1 own1 sH sF s1 r1=>?_⟩
 obtain⟨F2,own2,sF2,s2⟩:=s1.stow r1 e3
 exact k _ H1 F2 own2 (sF.trans sF2) s2
set_option genInjectivity false in
structure FG where
 run:D→DSt→Option DSt
 tch:List Nat
set_option genInjectivity false in
structure FGs where
 run:List D→DSt→Option DSt
 tch:List Nat
noncomputable def Zb7(Z:Ent K)(g:FG):TG:=fun v σ H Q=>∃F δ own d δ',SR Z F H σ δ own∧Rep K F d v∧g.run d δ=some δ'∧∀σ' own',SR Z F H σ' δ' own'→(∀j:Nat,j∉g.tch→σ'[j]? =σ[j]?)→Q σ' H
noncomputable def Zbs(Z:Ent K)(g:FGs):TGs:=fun vs σ H Q=>∃F δ own ds δ',SR Z F H σ δ own∧Reps K F ds vs∧g.run ds δ=some δ'∧∀σ' own',SR Z F H σ' δ' own'→(∀j:Nat,j∉g.tch→σ'[j]? =σ[j]?)→Q σ' H
noncomputable def Zm(i:Nat):FG:=⟨fun d δ=>if i<δ.length then some (δ.set i (some (.fz d)))else none,[i]⟩
theorem Zpc{i:Nat}{v:V}{Q:St→Hp→Prop}(h:Zb7 Z (Zm i) v σ H Q):Zir i v σ H Q:=by
 obtain⟨F,δ,own,d,δ',s,r,e,k⟩:=h
 have e:(if i<δ.length then some (δ.set i (some (.fz d)))else none)=some δ':=e
 by_cases hi:i<δ.length
 ·rw[if_pos hi]at e;cases e
  exact k _ _ (s.store (.fz r) (by rw[s.len];exact hi)) fun j hj=>List.getElem?_set_ne fun z=>hj (by rw[z];exact List.mem_cons_self)
 ·rw[if_neg hi]at e;cases e
noncomputable def Zb8:FGs:=⟨fun ds δ=>match ds with
 | []=>some δ
 |_=>none,[]⟩
noncomputable def Zw(g:FG)(r:FGs):FGs:=⟨fun ds δ=>match ds with
 |d::t=>(g.run d δ).bind fun δ1=>r.run t δ1
 | []=>none,g.tch++r.tch⟩
@[simp] theorem Zr5(i:Nat)(d:D)(δ:DSt):(Zm i).run d δ=if i<δ.length then some (δ.set i (some (.fz d)))else none:=rfl
@[simp] theorem Zue(δ:DSt):Zb8.run [] δ=some δ:=rfl
@[simp] theorem Zr6(g:FG)(r:FGs)(d:D)(t:List D)(δ:DSt):(Zw g r).run (d::t) δ=(g.run d δ).bind fun δ1=>r.run t δ1:=rfl
theorem Zr7{vs:List V}{Q:St→Hp→Prop}(h:Zbs Z Zb8 vs σ H Q):gNil vs σ H Q:=by
 obtain⟨F,δ,own,ds,δ',s,r,e,k⟩:=h
 cases r with
 |nil=>cases e;exact⟨rfl,k σ own s fun _ _=>rfl⟩
 |cons h t=>cases e
theorem Zpd{g:FG}{r:FGs}{vs:List V}{Q:St→Hp→Prop}(h:Zbs Z (Zw g r) vs σ H Q):Zq5 (Zb7 Z g) (Zbs Z r) vs σ H Q:=by
 obtain⟨F,δ,own,ds,δ',s,rr,e,k⟩:=h
 cases rr with
 |nil=>cases e
 |cons h t=>
  obtain⟨δ1,e1,e2⟩:=Option.bind_eq_some_iff.mp e
  exact⟨_,_,rfl,F,δ,own,_,δ1,s,h,e1,fun σ1 own1 s1 t1=>⟨F,δ1,own1,_,δ',s1,t,e2,fun σ2 own2 s2 t2=>k σ2 own2 s2 fun j hj=>(t2 j fun z=>hj (List.mem_append_right _ z)).trans (t1 j fun z=>hj (List.mem_append_left _ z))⟩⟩
noncomputable def Zb9(n:Nat)(g:FGs):FG:=⟨fun d δ=>match d with
 | .tup xs=>if xs.length=n then g.run xs δ else none
 |_=>none,g.tch⟩
@[simp] theorem Zuf(n:Nat)(g:FGs)(xs:List D)(δ:DSt):(Zb9 n g).run (.tup xs) δ=if xs.length=n then g.run xs δ else none:=rfl
theorem Zr8{n:Nat}{g:FGs}{v:V}{Q:St→Hp→Prop}(h:Zb7 Z (Zb9 n g) v σ H Q):gTup K n (Zbs Z g) v σ H Q:=by
 obtain⟨F,δ,own,d,δ',s,r,e,k⟩:=h
 dsimp only[Zb9]at e
 split at e
 ·rename_i xs
  by_cases hn:xs.length=n
  ·rw[if_pos hn]at e
   cases r with
   |tup h r=>exact⟨_,_,rfl,Zas s.le (Zdu h),by rw[←r.length];exact hn,F,δ,own,_,δ',s,r,e,k⟩
  ·rw[if_neg hn]at e;cases e
 ·cases e
@[simp] noncomputable def Zgy(g:FG)(fe:FE):FS:=fun δ=>(fe δ).bind fun p=>(frz p.1 p.2).bind fun q=>(g.run q.1 q.2).bind fun δ'=>some (.nx δ')
theorem Zmm{g:FG}{fe:FE}(h:Z0 Z (Zgy g fe) E σ H):tAsg (Zb Z fe) (Zb7 Z g) E σ H:=by
 obtain⟨F,δ,own,fl,s,e,k⟩:=h
 obtain⟨⟨rv,δ1⟩,e1,e2⟩:=Option.bind_eq_some_iff.mp e
 obtain⟨⟨d,δ2⟩,e3,e4⟩:=Option.bind_eq_some_iff.mp e2
 obtain⟨δ3,e5,e6⟩:=Option.bind_eq_some_iff.mp e4
 cases e6
 refine⟨F,δ,own,rv,δ1,s,e1,fun v H1 F1 own1 sH sF s1 r1=>?_⟩
 obtain⟨F2,sF2,s2,r2⟩:=s1.settleR r1
 obtain⟨F3,own3,sF3,s3,r3⟩:=s2.frzR r2 e3
 exact⟨F3,δ2,own3,d,δ3,s3,r3,e5,fun σ' own' s' _=>k σ' H1 F3 own' (sF.trans (sF2.trans sF3)) s'⟩
@[simp] noncomputable def forD(tg:FG)(body:FS):List D→DSt→Option Fl
 | [],δ=>some (.nx δ)
 |d::ds,δ=>(tg.run d δ).bind fun δ1=>(body δ1).bind fun
  | .nx δ2=>forD tg body ds δ2
  | .ct δ2=>forD tg body ds δ2
  | .bk δ2=>some (.nx δ2)
  | .rt sv=>some (.rt sv)
  | .ex x δ2=>some (.ex x δ2)
noncomputable def Zc9(K:PySem.W.Frag)(J:It)(F:Hp)(ds:List D):Prop:=∀F' H,Same F F'→Same F' H→∀i:Nat,
 (∀d,ds[i]? =some d→J.go i H∧∀x H',J.yld i H x H'→Same H H'∧∃ns,(adr ns).Nodup∧(∀p∈ns,H p.1=none∧H' p.1=some p.2)∧Rep K (addL F' ns) d x)∧(ds.length≤i→J.stop i H)
noncomputable def Zbp(Z:Ent K)(f:FD):TI:=fun σ H R=>∃F δ own ds δ',SR Z F H σ δ own∧f δ=some (ds,δ')∧
 ∀J H' F' own',Same H H'→Same F F'→SR Z F' H' σ δ' own'→Zc9 K J F' ds→R J H'
@[simp] noncomputable def forF(fi:FD)(tg:FG)(body:FS):FS:=fun δ=>(fi δ).bind fun p=>forD tg body p.1 p.2
theorem SR.fresh{F H':Hp}{δ:DSt}{own:Nat→Zo}{ns:Zo}(s:SR Z F H σ δ own)(sm:Same H H')(nd:(adr ns).Nodup)(h:∀p∈ns,H p.1=none∧H' p.1=some p.2):Same F (addL F ns)∧SR Z (addL F ns) H' σ δ own:=by
 refine⟨Zat fun p hp=>s.le.free (h p hp).1,(s.grow sm).addF nd (fun p hp=>s.le.free (h p hp).1) (fun p hp=>(h p hp).2) (fun p hp=>s.old.free (h p hp).1) fun i p q hp hq e=>?_⟩
 have z:=(s.ok i q hq).2.2
 rw[←e,(h p hp).1]at z;cases z
theorem Zvm{fi:FD}{tg:FG}{body:FS}(h:Z0 Z (forF fi tg body) E σ H):tFor (Zbp Z fi) (Zb7 Z tg) (Z0 Z body) E σ H:=by
 obtain⟨F,δ,own,fl,s,e,k⟩:=h
 obtain⟨⟨ds,δ1⟩,e1,e2⟩:=Option.bind_eq_some_iff.mp e
 refine⟨F,δ,own,ds,δ1,s,e1,fun J H1 F1 own1 sH sF s1 yl=>?_⟩
 refine⟨fun i m σ H=>m=ds.length- i∧i≤ds.length∧∃F δ own,Same F1 F∧SR Z F H σ δ own∧forD tg body (ds.drop i) δ=some fl,⟨ds.length,by simp,Nat.zero_le _,F1,δ1,own1,Same.refl F1,s1,e2⟩,?_⟩
 rintro i m σ' H' ⟨rfl,hi,F2,δ2,own2,sF2,s2,ef⟩
 by_cases hlt:i<ds.length
 ·have hd:ds[i]? =some ds[i]:=by simp[hlt]
  obtain⟨go,yy⟩:=(yl F2 H' sF2 s2.le i).1 _ hd
  rw[List.drop_eq_getElem_cons hlt]at ef
  obtain⟨δ3,e3,e4⟩:=Option.bind_eq_some_iff.mp ef
  obtain⟨f1,e5,e6⟩:=Option.bind_eq_some_iff.mp e4
  refine .inr ⟨go,fun σ4 H4=>∃F δ own,Same F1 F∧SR Z F H4 σ4 δ own∧forD tg body (ds.drop (i+1)) δ=some fl,fun σ4 H4 ⟨F4,δ4,own4,a,b,c⟩=>⟨ds.length- (i+1),by omega,rfl,hlt,F4,δ4,own4,a,b,c⟩,fun x H3 hy=>?_⟩
  obtain⟨sm,ns,nd,hn,rp⟩:=yy x H3 hy
  obtain⟨sFn,sn⟩:=s2.fresh sm nd hn
  refine⟨addL F2 ns,δ2,own2,_,δ3,sn,rp,e3,fun σ5 own5 s5 _=>⟨addL F2 ns,δ3,own5,f1,s5,e5,?_⟩⟩
  cases f1 with
  |nx δ6=>exact fun σ6 H6 F6 own6 a b=>⟨F6,δ6,own6,sF2.trans (sFn.trans a),b,e6⟩
  |ct δ6=>exact fun σ6 H6 F6 own6 a b=>⟨F6,δ6,own6,sF2.trans (sFn.trans a),b,e6⟩
  |bk δ6=>
   cases e6
   exact fun σ6 H6 F6 own6 a b=>k σ6 H6 F6 own6 (sF.trans (sF2.trans (sFn.trans a))) b
  |rt sv=>
   cases e6
   exact fun v H6 F6 ns6 a=>k v H6 F6 ns6 (sF.trans (sF2.trans (sFn.trans a)))
  |ex x δ6=>
   cases e6
   exact fun σ6 H6 F6 own6 cls od a=>k σ6 H6 F6 own6 cls od (sF.trans (sF2.trans (sFn.trans a)))
 ·have hz:i=ds.length:=by omega
  subst hz
  rw[List.drop_length]at ef
  cases ef
  exact .inl ⟨(yl F2 H' sF2 s2.le _).2 (Nat.le_refl _),k σ' H' F2 own2 (sF.trans sF2) s2⟩
noncomputable def Zbh(t:FT)(body:FS):Nat→DSt→Option Fl
 |0,_=>none
 |n+1,δ=>(t δ).bind fun p=>if p.1=true then(body p.2).bind (fun
  | .nx δ2=>Zbh t body n δ2
  | .ct δ2=>Zbh t body n δ2
  | .bk δ2=>some (.nx δ2)
  | .rt sv=>some (.rt sv)
  | .ex x δ2=>some (.ex x δ2))else some (.nx p.2)
theorem Zpe{n:Nat}{t:FT}{body:FS}(h:Z0 Z (Zbh t body n) E σ H):Znp (Z1 Z t) (Z0 Z body) E σ H:=by
 obtain⟨F,δ,own,fl,s,e,k⟩:=h
 refine⟨fun m σ H=>∃F2 δ own,Same F F2∧SR Z F2 H σ δ own∧Zbh t body m δ=some fl,⟨n,F,δ,own,Same.refl F,s,e⟩,?_⟩
 rintro m σ1 H1 ⟨F1,δ1,own1,sF1,s1,e1⟩
 cases m with
 |zero=>cases e1
 |succ m=>
  obtain⟨⟨c,δ2⟩,e2,e3⟩:=Option.bind_eq_some_iff.mp e1
  refine⟨F1,δ1,own1,c,δ2,s1,e2,fun H2 F2 own2 sH sF2 s2=>?_⟩
  cases c with
  |false=>
   rw[if_neg Bool.false_ne_true]at e3⊢
   cases e3
   exact k σ1 H2 F2 own2 (sF1.trans sF2) s2
  |true=>
   rw[if_pos rfl]at e3⊢
   obtain⟨f1,e4,e5⟩:=Option.bind_eq_some_iff.mp e3
   refine⟨fun σ' H'=>∃F2 δ own,Same F F2∧SR Z F2 H' σ' δ own∧Zbh t body m δ=some fl,fun σ' H' w=>⟨m,Nat.lt_succ_self m,w⟩,F2,δ2,own2,f1,s2,e4,?_⟩
   cases f1 with
   |nx δ6=>exact fun σ6 H6 F6 own6 a b=>⟨F6,δ6,own6,sF1.trans (sF2.trans a),b,e5⟩
   |ct δ6=>exact fun σ6 H6 F6 own6 a b=>⟨F6,δ6,own6,sF1.trans (sF2.trans a),b,e5⟩
   |bk δ6=>
    cases e5
    exact fun σ6 H6 F6 own6 a b=>k σ6 H6 F6 own6 (sF1.trans (sF2.trans a)) b
   |rt sv=>
    cases e5
    exact fun v H6 F6 ns6 a=>k v H6 F6 ns6 (sF1.trans (sF2.trans a))
   |ex x δ6=>
    cases e5
    exact fun σ6 H6 F6 own6 cls od a=>k σ6 H6 F6 own6 cls od (sF1.trans (sF2.trans a))
@[simp] noncomputable def seqI(fe:FE):FD:=fun δ=>(fe δ).bind fun p=>(frz p.1 p.2).bind fun q=>match q.1 with
 | .lst xs=>some (xs,q.2)
 | .tup xs=>some (xs,q.2)
 |_=>none
noncomputable def iSeq(K:PySem.W.Frag)(tl:TE):TI:=fun σ H R=>tl σ H fun x H1=>(∃a,x= .ref a∧(∃xs,SqL K H1 a xs)∧R (Itl K a) H1)∨(∃a,x= .ref a∧(∃xs,SqT K H1 a xs)∧R (Itt K a) H1)
theorem Zgz{F:Hp}{a:Addr}{xs:List D}{vs:List V}(h:SqL K F a vs)(r:Reps K F xs vs):Zc9 K (Itl K a) F xs:=fun F' H sF sH i=>by
 have q:SqL K H a vs:=Zab (sF.trans sH) h
 refine⟨fun d hd=>?_,fun hl=>⟨vs,q,by rw[←r.length];exact hl⟩⟩
 obtain⟨v,h1,h2⟩:=r.get hd
 refine⟨⟨vs,v,q,h1⟩,fun x H' zq9=>?_⟩
 obtain⟨e1,e2⟩:=zq9
 subst e1
 have e3:=e2 vs q
 rw[h1]at e3;cases e3
 exact⟨Same.refl _,[],List.nodup_nil,fun _ h=>(nomatch h),h2.mono sF⟩
theorem Ziz{F:Hp}{a:Addr}{xs:List D}{vs:List V}(h:SqT K F a vs)(r:Reps K F xs vs):Zc9 K (Itt K a) F xs:=fun F' H sF sH i=>by
 have q:SqT K H a vs:=Zas (sF.trans sH) h
 refine⟨fun d hd=>?_,fun hl=>⟨vs,q,by rw[←r.length];exact hl⟩⟩
 obtain⟨v,h1,h2⟩:=r.get hd
 refine⟨⟨vs,v,q,h1⟩,fun x H' zq9=>?_⟩
 obtain⟨e1,e2⟩:=zq9
 subst e1
 have e3:=e2 vs q
 rw[h1]at e3;cases e3
 exact⟨Same.refl _,[],List.nodup_nil,fun _ h=>(nomatch h),h2.mono sF⟩
noncomputable def Zfm(lo:Int)(n:Nat):List D:=(List.range n).map fun i=>.int (lo+(i:Nat))
theorem Zfn{lo:Int}{n:Nat}{F:Hp}:Zc9 K (Itr lo n) F (Zfm lo n):=fun F' H sF sH i=>by
 have hl:(Zfm lo n).length=n:=by unfold Zfm;rw[List.length_map,List.length_range]
 refine⟨fun d hd=>?_,fun h=>by rw[hl]at h;exact h⟩
 have hi:i<n:=by
  have:=(List.getElem?_eq_some_iff.mp hd).1
  rw[hl]at this;exact this
 refine⟨hi,fun x H' zq9=>?_⟩
 obtain⟨e1,e2⟩:=zq9
 subst e1 e2
 unfold Zfm at hd
 rw[List.getElem?_map,List.getElem?_range hi]at hd
 cases hd
 exact⟨Same.refl _,[],List.nodup_nil,fun _ h=>(nomatch h),.int _⟩
noncomputable def rngP(j:Int):Prop:=-(2^62)≤j∧j<2^62
theorem Zpf{j:Int}(h0:0≤j)(h:j≤16777216):rngP j:=⟨by omega,by omega⟩
theorem Zhx{n:Nat}(h:n≤16777216):rngP (n:Int):=Zpf (by omega) (by omega)
open Classical in
@[simp] noncomputable def rngI(fa:FA):FD:=fun δ=>(fa δ).bind fun p=>match Zbg p.1 p.2 with
 |some [.int j]=>if rngP j then some (Zfm 0 j.toNat,p.2)else none
 |_=>none
theorem Zr9{fa:FA}{R:It→Hp→Prop}(h:Zbp Z (rngI fa) σ H R):Zq9 (Zby Z fa) σ H R:=by
 obtain⟨F,δ,own,ds,δ',s,e,k⟩:=h
 obtain⟨⟨rvs,δ1⟩,e1,e2⟩:=Option.bind_eq_some_iff.mp e
 refine⟨F,δ,own,rvs,δ1,s,e1,fun vs H1 F1 own1 sH sF s1 r1=>?_⟩
 dsimp only at e2
 split at e2
 ·rename_i j hj
  have rn:=s1.rdAll r1 hj
  cases rn with
  |cons h t=>
   cases t
   by_cases hb:rngP j
   ·rw[if_pos hb]at e2
    cases e2
    exact⟨j,by rw[h.int],hb.1,hb.2,k _ H1 F1 own1 sH sF s1 Zfn⟩
   ·rw[if_neg hb]at e2;cases e2
 ·cases e2
@[simp] noncomputable def appF(i:Nat)(fe:FE):FS:=fun δ=>match δ[i]? with
 |some (some (.ol _))=>(fe δ).bind fun p=>(frz p.1 p.2).bind fun q=>match q.2[i]? with
  |some (some (.ol xs))=>if xs.length<PySem.sizeLine then some (.nx (q.2.set i (some (.ol (xs++[q.1])))))else none
  |_=>none
 |_=>none
theorem Zc2{F:Hp}{xs:List D}{v:V}{ns:Zo}(h:Shape K F (.ol xs) v ns):∃a vs,v= .ref a∧ns=[(a,.lst vs)]∧Reps K F xs vs:=by
 cases h with
 |ol r=>exact⟨_,_,rfl,rfl,r⟩
theorem Zvn{i:Nat}{fe:FE}(h:Z0 Z (appF i fe) E σ H):Zq3 (tBM K "list" Zc6 (tVar i) (Zme (Zb Z fe) tNil)) E σ H:=by
 obtain⟨F,δ,own,fl,s,e,k⟩:=h
 unfold appF at e
 split at e
 ·rename_i xs0 hx0
  obtain⟨⟨rv,δ1⟩,e1,e2⟩:=Option.bind_eq_some_iff.mp e
  obtain⟨⟨d,δ2⟩,e3,e4⟩:=Option.bind_eq_some_iff.mp e2
  obtain⟨v,hv,sh⟩:=s.at' i _ hx0
  obtain⟨a,vs0,ev,en,r0⟩:=Zc2 sh
  refine⟨v,hv,?_,F,δ,own,rv,δ1,s,e1,fun y H1 F1 own1 sH sF s1 r1=>?_⟩
  ·subst ev
   exact .inl ⟨rfl,vs0,.inl (.inl (s.ok i (a,.lst vs0) (by rw[en];exact List.mem_cons_self)).2.2)⟩
  obtain⟨F2,sF2,s2,r2⟩:=s1.settleR r1
  obtain⟨F3,own3,sF3,s3,r3⟩:=s2.frzR r2 e3
  dsimp only at e4
  split at e4
  ·rename_i xs hx
   by_cases hz:xs.length<PySem.sizeLine
   ·rw[if_pos hz]at e4
    cases e4
    obtain⟨v',hv',sh'⟩:=s3.at' i _ hx
    rw[hv]at hv';cases hv'
    obtain⟨b,vs,eb,en',r'⟩:=Zc2 sh'
    have mb:(b,HO.lst vs)∈own3 i:=by rw[en'];exact List.mem_cons_self
    subst eb
    refine⟨b,vs,y,rfl,rfl,(s3.ok i _ mb).2.2,by rw[←r'.length];exact hz,?_⟩
    exact k σ _ F3 _ (sF.trans (sF2.trans sF3)) (s3.change (sv':=.ol (xs++[d])) (o':=.lst (vs++[y])) (ns':=[(b,.lst (vs++[y]))]) hx hv mb (.ol (r'.snoc r3)) (fun p hp=>.inl (List.mem_singleton.mp hp)) nd1)
   ·rw[if_neg hz]at e4;cases e4
  ·cases e4
 ·cases e
end
@[simp] noncomputable def Zfo(n:Nat)(ds:List D):DSt:=ds.map (fun d=>some (.fz d))++List.replicate (n- ds.length) none
theorem Zhy{N:List Str}{F H:Hp}{ds:List D}{vs:List V}(le:Same F H)(r:Reps K F ds vs):SR (ent H F:Ent K) F H (L2.Zcj N vs) (Zfo N.length ds) fun _=>[]:=by
 have hl:=r.length
 refine⟨le,fun b o e=>.inl e,Same.refl H,?_,fun i sv e=>?_,fun _=>List.nodup_nil,fun _ _ h=>(nomatch h),fun _ _ _ _ _ h=>(nomatch h)⟩
 ·unfold L2.Zcj Zfo
  rw[List.length_append,List.length_append,List.length_map,List.length_map,List.length_replicate,List.length_replicate,hl]
 ·unfold Zfo at e
  by_cases hi:i<ds.length
  ·rw[List.getElem?_append_left (by simpa using hi),List.getElem?_map]at e
   cases hd:ds[i]? with
   |none=>rw[hd]at e;cases e
   |some d=>
    rw[hd]at e;cases e
    obtain⟨v,h1,h2⟩:=r.get hd
    refine⟨v,?_,.fz h2⟩
    unfold L2.Zcj
    rw[List.getElem?_append_left (by rw[List.length_map];omega),List.getElem?_map,h1]
    rfl
  ·rw[List.getElem?_append_right (by simpa using hi),List.getElem?_replicate]at e
   split at e<;> cases e
theorem Zej{n:Nat}{g:List D→Option SV}{vs:List V}{H:Hp}{Q:VK}{E:XK}(h:spOf K n g vs H Q E):vs.length=n:=by
 obtain⟨F,ds,sv,le,r,hn,e,k⟩:=h
 rw[←r.length];exact hn
end DL
namespace DL
open PySem L2
variable{K:PySem.W.Frag}
noncomputable def xG(K:PySem.W.Frag)(g:FG):TG:=fun v σ H Q=>∃Z:Ent K,Zb7 Z g v σ H Q
noncomputable def xT(K:PySem.W.Frag)(f:FT):TT:=fun σ H Q=>∃Z:Ent K,Z1 Z f σ H Q
noncomputable def xE(K:PySem.W.Frag)(f:FE):TE:=fun σ H Q=>∃Z:Ent K,Zb Z f σ H Q
noncomputable def Zg0:FT:=fun δ=>some (true,δ)
@[simp] theorem Zug(δ:DSt):Zg0 δ=some (true,δ):=rfl
@[simp] noncomputable def caps(src:List BSrc):List RV:=src.filterMap fun
 | .cap j=>some (.bw j)
 |_=>none
@[simp] noncomputable def Zke(δ:DSt):BSrc→Option SV
 | .own=>none
 | .cap j=>match δ[j]?.join with
  |some (.fz d)=>some (.fz d)
  |_=>none
 | .acc=>some (.ol [])
@[simp] noncomputable def bD(src:List BSrc)(δ:DSt):DSt:=src.map (Zke δ)
@[simp] noncomputable def Zda:BSrc→Option SV→Option SV
 | .own,_=>none
 |_,o=>o
@[simp] noncomputable def Zcl:List BSrc→DSt→DSt
 |b::r,o::t=>Zda b o::Zcl r t
 |_,t=>t
@[simp] noncomputable def Zbb(src:List BSrc)(k:Nat)(g:FG)(tt:FT)(te:FE):List D→DSt→Option DSt
 | [],δ=>some δ
 |d::ds,δ=>(g.run d δ).bind fun δ1=>(tt δ1).bind fun p=>if p.1=true then(te p.2).bind fun q=>(frz q.1 q.2).bind fun r=>match r.2[k]? with
   |some (some (.ol zs))=>if zs.length<PySem.sizeLine then Zbb src k g tt te ds (Zcl src (r.2.set k (some (.ol (zs++[r.1])))))else none
   |_=>none
  else Zbb src k g tt te ds (Zcl src p.2)
@[simp] noncomputable def Zg1(src:List BSrc)(k:Nat)(fi:FD)(g:FG)(tt:FT)(te:FE):FE:=fun δ=>(fi δ).bind fun p=>(frzAll (caps src) p.2).bind fun c=>(Zbb src k g tt te p.1 (bD src c.2)).bind fun δb=>match δb[k]? with
 |some (some (.ol ys))=>some (.tmp (.ol ys),c.2)
 |_=>none
theorem Zdb:∀(src:List BSrc) (δ:DSt),(Zcl src δ).length=δ.length
 | [],t=>by unfold Zcl;rfl
 |_::_,[]=>by unfold Zcl;rfl
 |b::r,o::t=>by show(Zda b o::Zcl r t).length=_;rw[List.length_cons,List.length_cons,Zdb r t]
theorem Zdc:∀{src:List BSrc} {δ:DSt} {i:Nat} {sv:SV},(Zcl src δ)[i]? =some (some sv)→δ[i]? =some (some sv)
 | [],_,_,_,h=>h
 |_::_,[],_,_,h=>h
 |b::r,o::t,0,sv,h=>by
  have h:some (Zda b o)=some (some sv):=h
  cases b with
  |own=>cases h
  |cap j=>exact h
  |acc=>exact h
 |b::r,o::t,i+1,sv,h=>by
  have h:(Zcl r t)[i]? =some (some sv):=h
  show t[i]? =_
  exact Zdc h
section
variable{Z:Ent K}{F H:Hp}{σ:St}{δ δ':DSt}{own:Nat→Zo}
theorem SR.forget(s:SR Z F H σ δ own)(hl:δ'.length=δ.length)(h:∀(i:Nat) (sv:SV),δ'[i]? =some (some sv)→δ[i]? =some (some sv)):SR Z F H σ δ' own:=
 ⟨s.le,s.fro,s.old,s.len.trans hl.symm,fun i sv e=>s.at' i sv (h i sv e),s.nod,s.ok,s.sep⟩
theorem SR.caps:∀{rvs:List RV} {ds:List D} {δ δ':DSt} {F:Hp} {own:Nat→Zo},(∀rv∈rvs,∃j,rv= .bw j)→SR Z F H σ δ own→DL.frzAll rvs δ=some (ds,δ')→∃F1 own1,Same F F1∧SR Z F1 H σ δ' own1
 | [],_,_,_,F,own,_,s,e=>by cases e;exact⟨F,own,Same.refl F,s⟩
 |rv::r,_,_,_,F,own,hb,s,e=>by
  obtain⟨⟨d,δ1⟩,e1,e2⟩:=Option.bind_eq_some_iff.mp e
  obtain⟨⟨ds,δ2⟩,e3,e4⟩:=Option.bind_eq_some_iff.mp e2
  cases e4
  obtain⟨j,rfl⟩:=hb rv List.mem_cons_self
  obtain⟨sv,e5,e6⟩:=Option.bind_eq_some_iff.mp e1
  cases e6
  obtain⟨F1,v,sF,_,_,s1⟩:=s.freeze (Za5 e5)
  obtain⟨F2,own2,sF2,s2⟩:=SR.caps (fun rv h=>hb rv (List.mem_cons_of_mem _ h)) s1 e3
  exact⟨F2,own2,sF.trans sF2,s2⟩
theorem SR.after{F3 H3:Hp}(s2:SR Z F H σ δ own)(sH3:Same H H3)(sF3:Same F F3)(le3:Same F3 H3)(fro3:∀(b:Addr) (o:HO),F3 b=some o→F b=some o∨H b=none):SR Z F3 H3 σ δ own:=by
 refine⟨le3,fun b o e=>?_,s2.old.trans sH3,s2.len,fun i sw ei=>?_,s2.nod,fun i p hp=>?_,s2.sep⟩
 ·rcases fro3 b o e with z|z
  ·exact s2.fro b o z
  ·exact .inr (s2.old.free z)
 ·obtain⟨w,h1,h2⟩:=s2.at' i sw ei
  exact⟨w,h1,h2.mono sF3⟩
 ·obtain⟨a,b,c⟩:=s2.ok i p hp
  refine⟨?_,b,sH3 _ _ c⟩
  cases z:F3 p.1 with
  |none=>rfl
  |some u=>
   rcases fro3 _ u z with y|y
   ·rw[a]at y;cases y
   ·rw[c]at y;cases y
end
structure SrcOk(src:List BSrc)(k:Nat):Prop where
 acc:src[k]? =some .acc
 uni:∀i:Nat,src[i]? =some .acc→i=k
theorem Zmn{Z:Ent K}{F H:Hp}{σ:St}{δ:DSt}{own:Nat→Zo}{src:List BSrc}{k:Nat}{acc:Addr}(S:SrcOk src k)(s:SR Z F H σ δ own)(ha:H acc=none):
  SR (ent H F:Ent K) F (upd H acc (.lst [])) (bSt src σ acc) (bD src δ) (fun i=>if i=k then[(acc,.lst [])]else[]):=by
 have mem:∀{i:Nat} {p:Addr×HO},p∈(if i=k then[(acc,HO.lst [])]else[])→i=k∧p=(acc,.lst []):=fun{i p} h=>by
  by_cases hi:i=k
  ·rw[if_pos hi]at h;exact⟨hi,List.mem_singleton.mp h⟩
  ·rw[if_neg hi]at h;exact nomatch h
 refine⟨s.le.trans (Zbo ha),fun b o e=>.inl e,Zbo ha,by unfold bSt bD;rw[List.length_map,List.length_map],fun i sv e=>?_,fun i=>?_,fun i p hp=>?_,fun i j p q hij hp hq=>?_⟩
 ·unfold bD at e
  rw[List.getElem?_map]at e
  cases hq:src[i]? with
  |none=>rw[hq]at e;cases e
  |some q=>
   rw[hq]at e
   have e:Zke δ q=some sv:=Option.some.inj e
   cases q with
   |own=>cases e
   |acc=>
    cases e
    have hi:=S.uni i hq
    refine⟨.ref acc,by unfold bSt;rw[List.getElem?_map,hq];rfl,?_⟩
    show Shape K F (.ol []) (.ref acc) (if i=k then[(acc,.lst [])]else[])
    rw[if_pos hi]
    exact .ol .nil
   |cap j=>
    have hi:i≠k:=fun z=>by rw[z,S.acc]at hq;cases hq
    unfold Zke at e
    dsimp only at e
    split at e
    ·rename_i d hd
     cases e
     obtain⟨v,h1,h2⟩:=s.at' j _ (Za5 hd)
     refine⟨v,by unfold bSt;rw[List.getElem?_map,hq];show some (σ[j]?).join=_;rw[h1];rfl,?_⟩
     show Shape K F (.fz d) v (if i=k then[(acc,.lst [])]else[])
     rw[if_neg hi]
     exact .fz (Zb6 h2)
    ·cases e
 ·show(adr (if i=k then[(acc,HO.lst [])]else[])).Nodup
  by_cases hi:i=k
  ·rw[if_pos hi];exact nd1
  ·rw[if_neg hi];exact List.nodup_nil
 ·obtain⟨_,rfl⟩:=mem hp
  exact⟨s.le.free ha,ha,Zv⟩
 ·obtain⟨z,_⟩:=mem hp
  obtain⟨y,_⟩:=mem hq
  exact absurd (z.trans y.symm) hij
theorem Zny{Z:Ent K}{H:Hp}{σ:St}{Q:VK}{src:List BSrc}{k:Nat}{fi:FD}{g:FG}{tt:FT}{te:FE}(S:SrcOk src k)(hk:k∉g.tch)(h:Zb Z (Zg1 src k fi g tt te) σ H Q):
  Zo6 src (Zbp Z fi) (xG K g) (xT K tt) (xE K te) σ H Q:=by
 obtain⟨F,δ,own,rv,δ',s,e,k0⟩:=h
 obtain⟨⟨ds,δ1⟩,e1,e2⟩:=Option.bind_eq_some_iff.mp e
 obtain⟨⟨cs,δ2⟩,e3,e4⟩:=Option.bind_eq_some_iff.mp e2
 obtain⟨δf,e5,e6⟩:=Option.bind_eq_some_iff.mp e4
 refine⟨F,δ,own,ds,δ1,s,e1,fun J H1 F1 own1 sH sF s1 yl acc ha=>?_⟩
 obtain⟨F2,own2,sF2,s2⟩:=s1.caps (fun rv hr=>by
  unfold DL.caps at hr
  obtain⟨b,_,hb⟩:=List.mem_filterMap.mp hr
  cases b with
  |own=>cases hb
  |acc=>cases hb
  |cap j=>cases hb;exact⟨j,rfl⟩) e3
 have s3:=Zmn S s2 ha
 have hacc0:(bSt src σ acc)[k]? =some (some (.ref acc)):=by unfold bSt;rw[List.getElem?_map,S.acc];rfl
 refine⟨fun i m σ' H=>m=ds.length- i∧i≤ds.length∧σ'[k]? =some (some (.ref acc))∧∃F δ own,Same F2 F∧SR (ent H1 F2:Ent K) F H σ' δ own∧Zbb src k g tt te (ds.drop i) δ=some δf,
  ⟨ds.length,by simp,Nat.zero_le _,hacc0,F2,_,_,Same.refl F2,s3,e5⟩,?_⟩
 rintro i m σ4 H4 ⟨rfl,hi,hacc,F4,δ4,own4,sF4,s4,ef⟩
 by_cases hlt:i<ds.length
 ·have hd:ds[i]? =some ds[i]:=by simp[hlt]
  obtain⟨go,yy⟩:=(yl F4 H4 (sF2.trans sF4) s4.le i).1 _ hd
  rw[List.drop_eq_getElem_cons hlt]at ef
  obtain⟨δ5,e7,e8⟩:=Option.bind_eq_some_iff.mp ef
  obtain⟨⟨b,δ6⟩,e9,e10⟩:=Option.bind_eq_some_iff.mp e8
  refine .inr ⟨go,fun x H5 hy=>?_⟩
  obtain⟨sm,ns,nd,hn,rp⟩:=yy x H5 hy
  obtain⟨sFn,sn⟩:=s4.fresh sm nd hn
  refine⟨(ent H1 F2:Ent K),addL F4 ns,δ4,own4,_,δ5,sn,rp,e7,fun σ6 own6 s6 t6=>⟨(ent H1 F2:Ent K),addL F4 ns,δ5,own6,b,δ6,s6,e9,fun H7 F7 own7 sH7 sF7 s7=>?_⟩⟩
  have hacc6:σ6[k]? =some (some (.ref acc)):=(t6 k hk).trans hacc
  cases b with
  |false=>
   dsimp only
   rw[if_neg Bool.false_ne_true]at e10⊢
   exact⟨ds.length- (i+1),by omega,rfl,hlt,hacc6,F7,_,own7,sF4.trans (sFn.trans sF7),s7.forget (Zdb src δ6) (fun j sv hj=>Zdc hj),e10⟩
  |true=>
   dsimp only
   rw[if_pos rfl]at e10⊢
   obtain⟨⟨rv8,δ8⟩,e11,e12⟩:=Option.bind_eq_some_iff.mp e10
   obtain⟨⟨d9,δ9⟩,e13,e14⟩:=Option.bind_eq_some_iff.mp e12
   refine⟨(ent H1 F2:Ent K),F7,δ6,own7,rv8,δ8,s7,e11,fun y H8 F8 own8 sH8 sF8 s8 r8=>?_⟩
   obtain⟨F9,sF9,s9,r9⟩:=s8.settleR r8
   obtain⟨F10,own10,sF10,s10,r10⟩:=s9.frzR r9 e13
   dsimp only at e14
   split at e14
   ·rename_i zs hz
    by_cases hzl:zs.length<PySem.sizeLine
    ·rw[if_pos hzl]at e14
     obtain⟨v',hv',sh'⟩:=s10.at' k _ hz
     rw[hacc6]at hv';cases hv'
     obtain⟨b,vs,eb,en',r'⟩:=Zc2 sh'
     cases eb
     have mb:(acc,HO.lst vs)∈own10 k:=by rw[en'];exact List.mem_cons_self
     refine⟨acc,vs,y,rfl,rfl,(s10.ok k _ mb).2.2,by rw[←r'.length];exact hzl,?_⟩
     have s11:=s10.change (sv':=.ol (zs++[d9])) (o':=.lst (vs++[y])) (ns':=[(acc,.lst (vs++[y]))]) hz hacc6 mb (.ol (r'.snoc r10)) (fun p hp=>.inl (List.mem_singleton.mp hp)) nd1
     exact⟨ds.length- (i+1),by omega,rfl,hlt,hacc6,F10,_,_,sF4.trans (sFn.trans (sF7.trans (sF8.trans (sF9.trans sF10)))),s11.forget (Zdb src _) (fun j sv hj=>Zdc hj),e14⟩
    ·rw[if_neg hzl]at e14;cases e14
   ·cases e14
 ·have hz:i=ds.length:=by omega
  subst hz
  rw[List.drop_length]at ef
  cases ef
  refine .inl ⟨(yl F4 H4 (sF2.trans sF4) s4.le _).2 (Nat.le_refl _),?_⟩
  dsimp only at e6
  split at e6
  ·rename_i ys hys
   cases e6
   obtain⟨v',hv',sh'⟩:=s4.at' k _ hys
   rw[hacc]at hv';cases hv'
   obtain⟨b,vs,eb,en',r'⟩:=Zc2 sh'
   cases eb
   have mb:(acc,HO.lst vs)∈own4 k:=by rw[en'];exact List.mem_cons_self
   obtain⟨o1,o2,o3⟩:=s4.ok k _ mb
   refine k0 (.ref acc) H4 F4 own2 (sH.trans s4.old) (sF.trans (sF2.trans sF4)) (s2.after s4.old sF4 s4.le fun b o e=>s4.fro b o e) ⟨[(acc,.lst vs)],.ol r',nd1,fun p hp=>?_,fun j p q hp hq e=>?_⟩
   ·obtain rfl:=List.mem_singleton.mp hp
    exact⟨o1,s2.old.free ha,o3⟩
   ·obtain rfl:=List.mem_singleton.mp hp
    have z:=(s2.ok j q hq).2.2
    have e':acc=q.1:=e
    rw[←e',ha]at z;cases z
  ·cases e6
end DL
namespace DL
open PySem PySem.Spec PyProof.Rows L2
variable{K:PySem.W.Frag}
variable{Z:Ent K}
@[simp] noncomputable def intI(f:Int→Int→D):D→D→Option SV
 | .int i,.int j=>some (.fz (f i j))
 |_,_=>none
@[simp] noncomputable def intC(C:Int→Int→Bool)(f:Int→Int→D):D→D→Option SV
 | .int i,.int j=>if C i j=true then some (.fz (f i j))else none
 |_,_=>none
theorem Zsa{g:Int→Int→V}{f:Int→Int→D}(hr:∀F i j,Rep K F (f i j) (g i j)):Za0 Z (rI0 g) (intI f):=by
 intro F H σ δ own x y d1 d2 sv Q s r1 r2 e k
 unfold intI at e
 split at e
 ·cases e
  exact⟨_,_,r1.int,r2.int,k.fz s (hr _ _ _)⟩
 ·cases e
theorem p_rI{C:Int→Int→Prop}{c:Int→Int→Bool}{g:Int→Int→V}{f:Int→Int→D}(hc:∀i j,c i j=true→C i j)(hr:∀F i j,Rep K F (f i j) (g i j)):Za0 Z (rI C g) (intC c f):=by
 intro F H σ δ own x y d1 d2 sv Q s r1 r2 e k
 unfold intC at e
 split at e
 ·split at e
  ·rename_i hcc
   cases e
   exact⟨_,_,r1.int,r2.int,hc _ _ hcc,k.fz s (hr _ _ _)⟩
  ·cases e
 ·cases e
@[simp] noncomputable def subD:D→D→Option SV:=intI fun i j=>.int (i- j)
noncomputable def cMul(i j:Int):Bool:=(decide (-(2^64)<i)&&decide (i<2^64))|| (decide (-(2^64)<j)&&decide (j<2^64))
@[simp] noncomputable def mulD:D→D→Option SV:=intC cMul fun i j=>.int (i*j)
@[simp] noncomputable def cDiv(i j:Int):Bool:=decide (0<j)&&decide (j<1073741824)
@[simp] noncomputable def Zi0:D→D→Option SV:=intC cDiv fun i j=>.int (i / j)
@[simp] noncomputable def cMod(i j:Int):Bool:=decide (0<j)
@[simp] noncomputable def modD:D→D→Option SV:=intC cMod fun i j=>.int (i % j)
@[simp] noncomputable def cPow(i j:Int):Bool:=decide (0≤j)&&decide (j≤1000000)&&decide (i.natAbs<2^64)
@[simp] noncomputable def powD:D→D→Option SV:=intC cPow fun i j=>.int (i^j.toNat)
theorem Zvo:Za0 Z (rI CMul fun i j=>V.int (i*j)) mulD:=p_rI (fun i j h=>by
 unfold cMul at h
 simp only[Bool.or_eq_true,Bool.and_eq_true,decide_eq_true_eq]at h
 exact h) fun _ _ _=>.int _
theorem Zsb:Za0 Z (rI CDiv fun i j=>V.int (i / j)) Zi0:=p_rI (fun i j h=>by
 unfold cDiv at h
 simp only[Bool.and_eq_true,decide_eq_true_eq]at h
 exact h) fun _ _ _=>.int _
theorem Zvp:Za0 Z (rI (fun _ j=>0<j) fun i j=>V.int (i % j)) modD:=p_rI (fun i j h=>by
 unfold cMod at h
 simp only[decide_eq_true_eq]at h
 exact h) fun _ _ _=>.int _
@[simp] noncomputable def ltD:D→D→Option SV:=intI fun i j=>.bl (decide (i<j))
@[simp] noncomputable def leD:D→D→Option SV:=intI fun i j=>.bl (decide (i≤j))
@[simp] noncomputable def gtD:D→D→Option SV:=intI fun i j=>.bl (decide (j<i))
@[simp] noncomputable def geD:D→D→Option SV:=intI fun i j=>.bl (decide (j≤i))
theorem p_lt:Za0 Z (rI0 fun i j=>V.bl (decide (i<j))) ltD:=Zsa fun _ _ _=>.bl _
theorem p_gt:Za0 Z (rI0 fun i j=>V.bl (decide (j<i))) gtD:=Zsa fun _ _ _=>.bl _
noncomputable def rStr:R2:=fun x y H Q=>∃i j,x= .str i∧y= .str j∧i.length+j.length≤PySem.sizeLine∧Q (.str (i++j)) H
noncomputable def Zsc(K:PySem.W.Frag):R2:=fun x y H Q=>∃l b xs zs,x= .ref l∧y= .ref b∧SqL K H l xs∧SqL K H b zs∧xs.length+zs.length≤PySem.sizeLine∧∀p,H p=none→Q (.ref p) (upd H p (.lst (xs++zs)))
theorem Zpg{X:Cx}:OpR X (binaryOp .Add) (Zsc X.K):=by
 intro pins s σ H x y v u Q I rx ry h
 obtain⟨l,b,xs,zs,rfl,rfl,hH,hB,hz,q⟩:=h
 cases rx
 cases ry
 obtain⟨its,r,pl,z⟩:=I.list hH
 obtain⟨its2,r2,pl2,z2⟩:=I.list hB
 have hl:=r.length
 have hl2:=r2.length
 obtain⟨⟨cls,dd,data,sl⟩,ho,hc,n,hd⟩:=pl.isList
 obtain⟨⟨cls2,dd2,data2,sl2⟩,ho2,hc2,n2,hd2⟩:=pl2.isList
 simp only at hc hd hc2 hd2
 subst hc hd hc2 hd2
 have ea:its.toArray++its2.toArray=(its++its2).toArray:=by simp
 refine concat_meets ⟨_,ho,rfl⟩ ⟨_,ho2,rfl⟩ noFill_list_add seq_list_add PySem.F.slot_list_add PySem.F.entry_list_add (PySem.F.args_list_add_2 _ _) (list_addW l b its.toArray its2.toArray n n2 dd dd2 sl sl2 (by rw[List.size_toArray,List.size_toArray];omega)) ⟨ho,ho2,?_⟩
 rw[ea]
 exact⟨.ref _,_,I.lnew (t':=s.toks) (r.append r2) (by rw[List.length_append];omega),rfl,q _ I.fresh⟩
noncomputable def Zsd(K:PySem.W.Frag):R2:=fun x y H Q=>rI0 (fun i j=>V.int (i+j)) x y H Q∨(rStr x y H Q∨Zsc K x y H Q)
theorem Zph{X:Cx}:OpR X (binaryOp .Add) (Zsd X.K):=Zrb.or (Ziu.or Zpg)
@[simp] noncomputable def addD:D→D→Option SV
 | .int i,.int j=>some (.fz (.int (i+j)))
 | .str x,.str y=>if x.length+y.length≤PySem.sizeLine then some (.fz (.str (x++y)))else none
 | .lst xs,.lst ys=>if xs.length+ys.length≤PySem.sizeLine then some (.ol (xs++ys))else none
 |_,_=>none
theorem Zvq:Za0 Z (Zsd K) addD:=by
 intro F H σ δ own x y d1 d2 sv Q s r1 r2 e k
 unfold addD at e
 split at e
 ·cases e
  exact .inl ⟨_,_,r1.int,r2.int,k.fz s (.int _)⟩
 ·split at e
  ·rename_i hz
   cases e
   exact .inr (.inl ⟨_,_,r1.str,r2.str,hz,k.fz s (.str _)⟩)
  ·cases e
 ·split at e
  ·rename_i hz
   cases e
   obtain⟨a,vs,ex,ha,ra⟩:=r1.lst s.le
   obtain⟨b,us,ey,hb,rb⟩:=r2.lst s.le
   exact .inr (.inr ⟨a,b,vs,us,ex,ey,ha,hb,by rw[←ra.length,←rb.length];exact hz,fun p hp=>k.lst s (ra.append rb) hp⟩)
  ·cases e
 ·cases e
@[simp] noncomputable def eqS:D→D→Option Bool
 | .non,.non=>some true
 | .non,.int _=>some false
 | .int _,.non=>some false
 | .non,.bl _=>some false
 | .bl _,.non=>some false
 | .non,.str _=>some false
 | .str _,.non=>some false
 | .int i,.int j=>some (decide (i=j))
 | .bl i,.bl j=>some (decide (i=j))
 | .str i,.str j=>some (decide (i=j))
 | .int _,.str _=>some false
 | .str _,.int _=>some false
 | .bl _,.str _=>some false
 | .str _,.bl _=>some false
 |_,_=>none
theorem Znz{F H:Hp}{d1 d2:D}{x y:V}{b:Bool}(e:eqS d1 d2=some b)(r1:RepN K F H d1 x)(r2:RepN K F H d2 y):scal x y=true∧b=decide (x=y):=by
 unfold eqS at e
 split at e<;> cases e
 ·rw[r1.non,r2.non];exact⟨rfl,by simp⟩
 ·rw[r1.non,r2.int];exact⟨rfl,by simp⟩
 ·rw[r1.int,r2.non];exact⟨rfl,by simp⟩
 ·rw[r1.non,r2.bl];exact⟨rfl,by simp⟩
 ·rw[r1.bl,r2.non];exact⟨rfl,by simp⟩
 ·rw[r1.non,r2.str];exact⟨rfl,by simp⟩
 ·rw[r1.str,r2.non];exact⟨rfl,by simp⟩
 ·rw[r1.int,r2.int];exact⟨rfl,by simp⟩
 ·rw[r1.bl,r2.bl];exact⟨rfl,by simp⟩
 ·rw[r1.str,r2.str];exact⟨rfl,by simp⟩
 ·rw[r1.int,r2.str];exact⟨rfl,by simp⟩
 ·rw[r1.str,r2.int];exact⟨rfl,by simp⟩
 ·rw[r1.bl,r2.str];exact⟨rfl,by simp⟩
 ·rw[r1.str,r2.bl];exact⟨rfl,by simp⟩
@[simp] noncomputable def eqD(d1 d2:D):Option SV:=(eqS d1 d2).bind fun b=>some (.fz (.bl b))
@[simp] noncomputable def neD(d1 d2:D):Option SV:=(eqS d1 d2).bind fun b=>some (.fz (.bl (!b)))
theorem p_eq:Za0 Z rEq eqD:=by
 intro F H σ δ own x y d1 d2 sv Q s r1 r2 e k
 obtain⟨b,e1,e2⟩:=Option.bind_eq_some_iff.mp e
 cases e2
 obtain⟨h1,h2⟩:=Znz e1 r1 r2
 subst h2
 exact⟨h1,k.fz s (.bl _)⟩
theorem p_ne:Za0 Z rNe neD:=by
 intro F H σ δ own x y d1 d2 sv Q s r1 r2 e k
 obtain⟨b,e1,e2⟩:=Option.bind_eq_some_iff.mp e
 cases e2
 obtain⟨h1,h2⟩:=Znz e1 r1 r2
 subst h2
 exact⟨h1,k.fz s (.bl _)⟩
@[simp] noncomputable def D.isNon:D→Bool
 | .non=>true
 |_=>false
theorem Zhz{F H:Hp}{d:D}{x:V}(r:RepN K F H d x):decide (x= .non)=d.isNon:=by
 obtain⟨sv,ns,e,n,sh,hp⟩:=r
 subst e
 cases sh with
 |fz r=>cases r<;> rfl
 |_=>rfl
@[simp] noncomputable def isND(d1 d2:D):Option SV:=if d2.isNon=true then some (.fz (.bl d1.isNon))else none
@[simp] noncomputable def Zi1(d1 d2:D):Option SV:=if d2.isNon=true then some (.fz (.bl (!d1.isNon)))else none
theorem Zh0{d:D}(h:d.isNon=true):d= .non:=by cases d<;> first|rfl|cases h
theorem Zse:Za0 Z (fun x y H Q=>y=V.non∧Q (.bl (decide (x= .non))) H) isND:=by
 intro F H σ δ own x y d1 d2 sv Q s r1 r2 e k
 unfold isND at e
 split at e
 ·rename_i h
  cases e
  have:=Zh0 h
  subst this
  exact⟨r2.non,by rw[Zhz r1];exact k.fz s (.bl _)⟩
 ·cases e
theorem Zsf:Za0 Z (fun x y H Q=>y=V.non∧Q (.bl (!decide (x= .non))) H) Zi1:=by
 intro F H σ δ own x y d1 d2 sv Q s r1 r2 e k
 unfold Zi1 at e
 split at e
 ·rename_i h
  cases e
  have:=Zh0 h
  subst this
  exact⟨r2.non,by rw[Zhz r1];exact k.fz s (.bl _)⟩
 ·cases e
theorem Reps.atI{F:Hp}{xs:List D}{vs:List V}{i:Int}{d:D}(r:Reps K F xs vs)(e:L2.atI xs i=some d):∃v,L2.atI vs i=some v∧Rep K F d v:=by
 unfold L2.atI at e⊢
 obtain⟨j,e1,e2⟩:=Option.bind_eq_some_iff.mp e
 obtain⟨v,h1,h2⟩:=r.get e2
 exact⟨v,Option.bind_eq_some_iff.mpr ⟨j,by rw[←r.length];exact e1,h1⟩,h2⟩
@[simp] noncomputable def ixD:D→D→Option SV
 | .lst xs,.int i=>(L2.atI xs i).bind fun d=>some (.fz d)
 | .tup xs,.int i=>(L2.atI xs i).bind fun d=>some (.fz d)
 | .str z,.int i=>if z.length≤PySem.sizeLine then(L2.atI z.cps.toList i).bind fun c=>some (.fz (.str ⟨#[c]⟩))else none
 |_,_=>none
theorem p_ix:Za0 Z (rIx K) ixD:=by
 intro F H σ δ own x y d1 d2 sv Q s r1 r2 e k
 unfold ixD at e
 split at e
 ·obtain⟨d,e1,e2⟩:=Option.bind_eq_some_iff.mp e
  cases e2
  obtain⟨a,vs,ex,ha,ra⟩:=r1.lst s.le
  obtain⟨v,h1,h2⟩:=ra.atI e1
  exact .inl ⟨a,vs,_,v,ex,r2.int,ha,h1,k.fz s h2⟩
 ·obtain⟨d,e1,e2⟩:=Option.bind_eq_some_iff.mp e
  cases e2
  obtain⟨a,vs,ex,ha,ra⟩:=r1.tup s.le
  obtain⟨v,h1,h2⟩:=ra.atI e1
  exact .inr (.inl ⟨a,vs,_,v,ex,r2.int,ha,h1,k.fz s h2⟩)
 ·split at e
  ·rename_i hz
   obtain⟨c,e1,e2⟩:=Option.bind_eq_some_iff.mp e
   cases e2
   exact .inr (.inr ⟨_,_,c,r1.str,r2.int,hz,e1,k.fz s (.str _)⟩)
  ·cases e
 ·cases e
noncomputable abbrev FO:=DSt→Option (Option Int×DSt)
noncomputable def Zfp(Z:Ent K)(f:FO):TO:=fun σ H Q=>∃F δ own o δ',SR Z F H σ δ own∧f δ=some (o,δ')∧∀H' F' own',Same H H'→Same F F'→SR Z F' H' σ δ' own'→Q o H'
@[simp] noncomputable def Zkf:FO:=fun δ=>some (none,δ)
@[simp] noncomputable def Zkg(fe:FE):FO:=fun δ=>(fe δ).bind fun p=>match p.1 with
 | .tmp (.fz (.int i))=>some (some i,p.2)
 |_=>none
section
variable{H:Hp}{σ:L2.St}{Q:VK}{R:Option Int→Hp→Prop}
theorem Zmo(h:Zfp Z Zkf σ H R):Zjw σ H R:=by
 obtain⟨F,δ,own,o,δ',s,e,k⟩:=h
 cases e
 exact k H F own (Same.refl H) (Same.refl F) s
theorem Zsg{fe:FE}(h:Zfp Z (Zkg fe) σ H R):Zrm (Zb Z fe) σ H R:=by
 obtain⟨F,δ,own,b,δ',s,e,k⟩:=h
 obtain⟨⟨rv,δ1⟩,e1,e2⟩:=Option.bind_eq_some_iff.mp e
 refine⟨F,δ,own,rv,δ1,s,e1,fun v H1 F1 own1 sH sF s1 r1=>?_⟩
 dsimp only at e2
 split at e2
 ·cases e2
  obtain⟨ns,t⟩:=r1
  cases Zb6 t.sh
  exact⟨_,rfl,k H1 F1 own1 sH sF s1⟩
 ·cases e2
@[simp] noncomputable def slF(g:D→Option Int→Option Int→Option SV)(fe:FE)(fl fh:FO):FE:=fun δ=>(fe δ).bind fun p=>(fl p.2).bind fun l=>(fh l.2).bind fun h=>(rdv p.1 h.2).bind fun d=>(g d l.1 h.1).bind fun sv=>some (.tmp sv,h.2)
noncomputable def Zsh(Z:Ent K)(r:V→Option Int→Option Int→Hp→VK→Prop)(g:D→Option Int→Option Int→Option SV):Prop:=
 ∀(F H:Hp) (σ:L2.St) (δ:DSt) (own:Nat→Zo) (x:V) (d:D) (lo hi:Option Int) (sv:SV) (Q:VK),SR Z F H σ δ own→RepN K F H d x→g d lo hi=some sv→Fin Z F H σ δ own sv Q→r x lo hi H Q
theorem l_sl{r:V→Option Int→Option Int→Hp→VK→Prop}{g:D→Option Int→Option Int→Option SV}{fe:FE}{fl fh:FO}(hg:Zsh Z r g)(h:Zb Z (slF g fe fl fh) σ H Q):tSl r (Zb Z fe) (Zfp Z fl) (Zfp Z fh) σ H Q:=by
 obtain⟨F,δ,own,rv,δ',s,e,k⟩:=h
 obtain⟨⟨rv1,δ1⟩,e1,e⟩:=Option.bind_eq_some_iff.mp e
 obtain⟨⟨lo,δ2⟩,e2,e⟩:=Option.bind_eq_some_iff.mp e
 obtain⟨⟨hi,δ3⟩,e3,e⟩:=Option.bind_eq_some_iff.mp e
 obtain⟨d,e4,e⟩:=Option.bind_eq_some_iff.mp e
 obtain⟨sv,e5,e⟩:=Option.bind_eq_some_iff.mp e
 cases e
 refine⟨F,δ,own,rv1,δ1,s,e1,fun v H1 F1 own1 sH1 sF1 s1 r1=>?_⟩
 obtain⟨F1',sF1',s1',r1'⟩:=s1.settleR r1
 refine⟨F1',δ1,own1,lo,δ2,s1',e2,fun H2 F2 own2 sH2 sF2 s2=>⟨F2,δ2,own2,hi,δ3,s2,e3,fun H3 F3 own3 sH3 sF3 s3=>?_⟩⟩
 exact hg F3 H3 σ δ3 own3 v d lo hi sv Q s3 (s3.rd (r1'.mono (sF2.trans sF3)) e4) e5 fun q H4 F4 ns sH4 sF4 s4 t4=>
  k q H4 F4 own3 (sH1.trans (sH2.trans (sH3.trans sH4))) (sF1.trans (sF1'.trans (sF2.trans (sF3.trans sF4)))) s4 ⟨ns,t4⟩
end
noncomputable def cutD(xs:List D)(lo hi:Option Int):List D:=(xs.drop (HT.sIx xs.length 0 lo)).take (HT.sIx xs.length xs.length hi- HT.sIx xs.length 0 lo)
theorem Reps.cut{F:Hp}{xs:List D}{vs:List V}(r:Reps K F xs vs)(lo hi:Option Int):Reps K F (cutD xs lo hi) (cutV vs lo hi):=by
 unfold cutD cutV
 rw[r.length]
 exact(r.drop _).take _
noncomputable def rSlS:V→Option Int→Option Int→Hp→VK→Prop:=fun x lo hi H Q=>∃z,x= .str z∧z.length≤PySem.sizeLine∧Q (.str (Txt.slice z lo hi)) H
theorem Zsi{X:Cx}:SlR X rSlS:=by
 intro pins s σ H x v vl vu lo hi sl Q I rx hs pl pu h
 obtain⟨z,rfl,hz,q⟩:=h
 obtain⟨t,rfl⟩:=rx
 refine⟨"str",_,F.slot_str_getitem.lookup,typeIs_str _ _ _,?_⟩
 have fin:∀(t':Tok) (k:Nat),EP X pins σ Q (.str (Txt.slice z lo hi) t') {s with toks:=k}:=fun t' k=>⟨.str (Txt.slice z lo hi),H,I.tok _,⟨_,rfl⟩,q⟩
 cases pl with
 |none=>cases pu with
  |none=>exact wpAny_getItem_str_slice (l:=none) (u:=none) (st:=none) hs rfl (post_val_or_str ⟨Nat.le_trans (Txt.slice_le z _ _) hz,fin⟩)
  |int j tj=>exact wpAny_getItem_str_slice (l:=none) (u:=some (j,tj)) (st:=none) hs rfl (post_val_or_str ⟨Nat.le_trans (Txt.slice_le z _ _) hz,fin⟩)
 |int i ti=>cases pu with
  |none=>exact wpAny_getItem_str_slice (l:=some (i,ti)) (u:=none) (st:=none) hs rfl (post_val_or_str ⟨Nat.le_trans (Txt.slice_le z _ _) hz,fin⟩)
  |int j tj=>exact wpAny_getItem_str_slice (l:=some (i,ti)) (u:=some (j,tj)) (st:=none) hs rfl (post_val_or_str ⟨Nat.le_trans (Txt.slice_le z _ _) hz,fin⟩)
@[simp] noncomputable def slD:D→Option Int→Option Int→Option SV
 | .lst xs,lo,hi=>some (.ol (cutD xs lo hi))
 | .str z,lo,hi=>if z.length≤PySem.sizeLine then some (.fz (.str (Txt.slice z lo hi)))else none
 |_,_,_=>none
theorem p_sl:Zsh Z (fun x lo hi H Q=>rSlL K x lo hi H Q∨rSlS x lo hi H Q) slD:=by
 intro F H σ δ own x d lo hi sv Q s r1 e k
 unfold slD at e
 split at e
 ·cases e
  obtain⟨a,vs,ex,ha,ra⟩:=r1.lst s.le
  exact .inl ⟨a,vs,ex,ha,fun p hp=>k.lst s (ra.cut _ _) hp⟩
 ·split at e
  ·rename_i hz
   cases e
   exact .inr ⟨_,r1.str,hz,k.fz s (.str _)⟩
  ·cases e
 ·cases e
end DL
namespace L2
open PySem PySem.Spec PyProof.Rows
section
variable{X:Cx}{tg:Expr}
noncomputable def Ite(K:PySem.W.Frag)(a:Addr):It:=
 ⟨fun i H=>∃xs x,SqL K H a xs∧xs[i]? =some x,fun i H x H'=>∃p v,x= .ref p∧H p=none∧H'=upd H p (.tup [.int (i:Nat),v])∧∀xs,SqL K H a xs→xs[i]? =some v,fun i H=>∃xs,SqL K H a xs∧xs.length≤i⟩
theorem Inv.turnedT{pins:List (Addr×Obj)}{σ:L2.St}{H:Hp}{s:Shared}{h':Heap}{t':Nat}{e it T:Addr}{xs:List V}{its:List Value}(I:Inv X pins σ H s)(k:∀b o,b≠e→b≠it→s.heap.get? b=some o→h'.get? b=some o)
  (f1:FpOk X pins H e) (f2:FpOk X pins H it) (hT:T=s.heap.objs.size) (ht:IsTup h' T its.toArray) (rv:Vals xs its) (hz:xs.length≤sizeLine) (he:∃o,h'.get? e=some o) (hi:∃o,h'.get? it=some o):
  Inv X pins σ (upd H T (.tup xs)) {s with heap:=h',toks:=t'}:=by
 have hTn:H T=none:=by rw[hT];exact I.hok.fresh (Nat.le_refl _)
 have neT:∀b o,s.heap.get? b=some o→b≠T:=fun b o q=>by rw[hT];exact Nat.ne_of_lt (Heap.lt_size q)
 have ntr:∀b u,H b=some u→b≠e∧b≠it:=fun b u q=>⟨(fun z=>by rw[z,f1.1]at q;cases q),(fun z=>by rw[z,f2.1]at q;cases q)⟩
 refine I.step (g':=s.gens) (d':=s.drawn) (ch:=[e,it]) (fun b hb=>?_) (fun b o _ _ hc q _=>k b o (fun z=>hc (by simp[z])) (fun z=>hc (by simp[z])) q)
  (fun b o _ _ hc q _=>⟨o.slots,k b o (fun z=>hc (by simp[z])) (fun z=>hc (by simp[z])) q⟩) (fun b o _ q n=>by rw[Zl (neT b o q)];exact n)
  (fun b o hc q=>⟨o,k b o (fun z=>hc (by simp[z])) (fun z=>hc (by simp[z])) q⟩) (fun b ys q=>by rw[Zl (Zu q hTn)];exact q) (fun b o u q=>by rw[Zl (Zu q hTn)];exact q)
  (fun b ps q=>⟨#[],by rw[Zl (Zu q hTn),q];simp⟩) (fun m hm=>?_) (fun b u q=>?_) I.bare
 ·have hb':b=e∨b=it:=by simpa using hb
  rcases hb' with z|z
  ·subst z;obtain⟨_,a1,_,a3,a4,a5⟩:=f1;exact⟨a3,a1,a4,a5⟩
  ·subst z;obtain⟨_,a1,_,a3,a4,a5⟩:=f2;exact⟨a3,a1,a4,a5⟩
 ·obtain⟨o,es,ep,ho,r⟩:=hm
  exact⟨o,es,ep,k _ o (Ne.symm f1.2.1) (Ne.symm f2.2.1) ho,r⟩
 ·by_cases hb:b=T
  ·subst hb
   rw[Zv]at q;cases q
   exact⟨hz,its,rv,ht⟩
  ·rw[Zl hb]at q
   refine(I.hok b u q).stay (fun c v hc z=>?_) (fun c z=>by rw[Zl (Zu z hTn)];exact z) fun c ys z=>by rw[Zl (Zu z hTn)];exact z
   rcases hc with y|y
   ·rw[y]at z⊢;exact k _ _ (ntr b u q).1 (ntr b u q).2 z
   ·exact k _ _ (ntr c _ y).1 (ntr c _ y).2 z
theorem Zkh{P:Program}{w:World}{K:PySem.W.Frag}{elts:List Expr}{kk:Nat}{tpos:Pos}(a e it:Addr)(hei:e≠it):Turn P w K (.Tuple elts kk tpos) (Ite K a) [e,it] e (fun i h=>(∃old,IsEnum h e it ((i:Nat):Int) old)∧h.IsListIter it a i)where
 mem:=by simp
 obj:=fun i h st b hb=>by
  have hb':b=e∨b=it:=by simpa using hb
  rcases hb' with z|z
  ·subst z
   obtain⟨old,q⟩:=st.1
   exact⟨_,q,fun v y=>by
    have y':Data.fields _=Data.cell v:=y
    cases y'⟩
  ·subst z
   obtain⟨o,q,c,d⟩:=st.2
   exact⟨o,q,fun v y=>by rw[d]at y;cases y⟩
 keep:=fun i h h' st k=>⟨let⟨old,q⟩:=st.1;⟨old,k e (by simp) _ q⟩,st.2.at fun o q=>k it (by simp) o q⟩
 item:=by
  intro X hP hw hK hc i pins s σ H E I hf st hg
  subst hP hw hK
  obtain⟨xs,x,hq,hx⟩:=hg
  obtain⟨its,rv,p,hz⟩:=I.list hq
  obtain⟨u,hu,ru⟩:=rv.get hx
  obtain⟨⟨old,he⟩,hit⟩:=st
  have hl:s.heap.IsList a its.toArray:=p.isList
  have ai:a≠it:=fun z=>by
   obtain⟨o1,q1,c1,_⟩:=hit
   obtain⟨o2,q2,c2,_⟩:=hl
   rw[z,q1]at q2;cases q2
   rw[c1]at c2;exact absurd c2 (by decide)
  have ae:e∉[it,a]:=fun z=>by
   have z':e=it∨e=a:=by simpa using z
   rcases z' with z|z
   ·exact hei z
   ·obtain⟨o2,q2,c2,_⟩:=hl
    rw[←z,he]at q2;cases q2;exact absurd (show Value.type "enumerate"=Value.type "list"from c2) (by decide)
  have D:=Draws.list (prog:=X.prog) (w:=X.w) (A:=X.A.in1) (by first|exact I.ok.hd hc| (rw[show X.A.in1.handled=X.A.handled from rfl];exact I.ok.hd hc)) it a ai its.toArray
  have hlt:i<its.toArray.size:=by
   have:=(List.getElem?_eq_some_iff.mp hu).1
   rw[List.size_toArray];exact this
  refine wpAny_pyNext_enum_itemD D he ⟨hit,hl⟩ hlt hei ae fun y h' tk hy hout st' hT hsz hk=>⟨.ref s.heap.objs.size,rfl,?_⟩
  refine wpAny_letOwnedTupleGo_enum hout fun h2 he2 hs2=>?_
  have hy':its.toArray[i]? =some y:=hy
  have ey:y=u:=by
   have:its[i]? =some y:=by simpa using hy'
   rw[hu]at this;cases this;rfl
  subst ey
  have kk:∀b o,b≠e→b≠it→s.heap.get? b=some o→h2.get? b=some o:=fun b o h1 h3 q=>(hs2.2 b h1).trans (hk b o h1 h3 q)
  have neT:s.heap.objs.size≠e:=Nat.ne_of_gt (Heap.lt_size he)
  have I2:=I.turnedT (h':=h2) (t':=tk+1) (e:=e) (it:=it) (T:=s.heap.objs.size) (xs:=[.int (i:Nat),x]) (its:=[.int i tk,y]) kk (hf e (by simp)) (hf it (by simp)) rfl ⟨_,(hs2.2 _ neT).trans hT,rfl,_,rfl⟩ (.cons ⟨tk,rfl⟩ (.cons ru .nil)) (by show 2≤sizeLine;decide)
   ⟨_,he2⟩ (let⟨o,q,_⟩:=st'.1;⟨o,(hs2.2 it (Ne.symm hei)).trans q⟩)
  refine⟨.ref s.heap.objs.size,_,I2,rfl,⟨s.heap.objs.size,x,rfl,I.hok.fresh (Nat.le_refl _),rfl,fun ys hy2=>by rw[I.list_inj hy2 hq];exact hx⟩,⟨⟨_,he2⟩,st'.1.at fun o q=>(hs2.2 it (Ne.symm hei)).trans q⟩,fun b hb=>?_⟩
  rw[Zl fun z=>?_]
  ·exact(hf b hb).1
  ·have hb':b=e∨b=it:=by simpa using hb
   rcases hb' with y|y
   ·rw[←z,y]at neT;exact neT rfl
   ·obtain⟨o,q,_⟩:=hit
    rw[y]at z
    exact absurd (Heap.lt_size q) (by rw[z];exact Nat.lt_irrefl _)
 done:=by
  intro X hP hw hK hc i pins s σ H E I hf st hg
  subst hP hw hK
  obtain⟨xs,hq,hx⟩:=hg
  obtain⟨its,rv,p,hz⟩:=I.list hq
  obtain⟨⟨old,he⟩,hit⟩:=st
  obtain⟨f0,f1,f2,f3,f4,f5⟩:=hf it (by simp)
  have hl:=rv.length
  exact wpAny_pyNext_enum_end (I.ok.hd hc) he hit p.isList (by simp;omega) fun h' eb=>⟨rfl,I.turned (t':=s.toks) (fun b o hb q=>eb b o hb q) f0 f1 f3 f4 f5⟩
 self:=fun _ _ _ _ _ st h=>let⟨⟨old,he⟩,_⟩:=st;wpAny_pyIter_enum he h
noncomputable def Zsj(K:PySem.W.Frag)(ta:TA):TI:=fun σ H R=>ta σ H fun vs H1=>∃a xs,vs=[.ref a]∧SqL K H1 a xs∧R (Ite K a) H1
theorem Zpi{l:Expr}{elts:List Expr}{kk:Nat}{tpos p pos:Pos}{ta:TA}(hg:Gl X "enumerate")(hm:X.mg "enumerate"=none)(ha:PA X [l] ta)(hs:starEach [l] X.env=[(false,eval l X.env)]:=by rfl):
  PI X (.Tuple elts kk tpos) (.Call (.Name "enumerate" p) [l] [] pos) (Zsj X.K ta):=by
 intro pins s σ H R I h
 refine Call_ (Zc5 I hg hm boot_enumerate (PyProof.Rows.callWith_type1 (thn (ha pos pins s σ H _ I h) fun us s1 ⟨vs,H1,I1,r1,q1⟩=>?_) hs rfl))
 obtain⟨a,xs,e,hq,q⟩:=q1
 subst e
 obtain⟨u,rfl,ru⟩:=Zdt r1
 cases ru
 obtain⟨its,rv,p,hz⟩:=I1.list hq
 refine call_enumerate_list p.isList fun h' he hit hsz hk=>wpAny_pyIter_enum he ?_
 have I2:Inv X pins σ H1 {s1 with heap:=h'}:=I1.kept (t':=s1.toks) hk
 refine⟨s1.heap.objs.size+1,[s1.heap.objs.size+1,s1.heap.objs.size],_,_,H1,rfl,I2,Zkh a _ _ (Nat.succ_ne_self _),⟨⟨.none,by simpa using he⟩,hit⟩,fun b hb=>?_,q⟩
 have hb':b=s1.heap.objs.size+1∨b=s1.heap.objs.size:=by simpa using hb
 rcases hb' with z|z
 ·subst z;exact I1.fpOk (Nat.le_succ _) (I1.hok.fresh (Nat.le_succ _))
 ·subst z;exact I1.fpOk (Nat.le_refl _) (I1.hok.fresh (Nat.le_refl _))
noncomputable def Zzj(K:PySem.W.Frag):V→List V→Hp→VK→Prop:=fun x xs H Q=>∃sep p ys,x= .str sep∧xs=[.ref p]∧SqL K H p (ys.map V.str)∧JoinOk sep ys=true∧Q (.str (Txt.join sep ys)) H
inductive TyX(K:PySem.W.Frag)(H:Hp):V→String→Prop where
 |non:TyX K H .non "NoneType"
 |bl (x:Bool):TyX K H (.bl x) "bool"
 |int (i:Int):TyX K H (.int i) "int"
 |str (x:Str):TyX K H (.str x) "str"
 |lst {a:Addr} {xs:List V} (e:SqL K H a xs):TyX K H (.ref a) "list"
 |tup {a:Addr} {xs:List V} (e:SqT K H a xs):TyX K H (.ref a) "tuple"
 |dK {a:Addr} {kvs:List (Key×V)} {ep:Nat} (e:H a=some (.dK kvs ep)):TyX K H (.ref a) "dict"
 |dT {a:Addr} {kvs:List (List Key×V)} {ep:Nat} {bs:List Addr} (e:H a=some (.dT kvs ep bs)):TyX K H (.ref a) "dict"
theorem Zmp{pins:List (Addr×Obj)}{σ:L2.St}{H:Hp}{s:Shared}{A:Around}{E:Value→Shared→Prop}{Q:Value→Shared→Prop}{c:Value}{b:Bool}{x:V}{u:Value}{T:String}(I:Inv X pins σ H s)(rx:RelV x u)(ty:TyX X.K H x T)(e:PySem.W.kitOne X.K (.type T) c=some b)(h:∀tk,Q (.bool b) {s with toks:=tk}):
  wpAny (model X.prog X.w) A (call (.builtin "isinstance") [u,c]) Q E s:=by
 cases ty with
 |non=>cases(show u=Value.none from rx);exact PySem.W.kia_one PySem.W.kitx_none I.kIn True.intro e (fun z=>nomatch z) h
 |bl y=>cases(show u=Value.bool y from rx);exact PySem.W.kia_one PySem.W.kitx_bool I.kIn True.intro e (fun z=>nomatch z) h
 |int i=>obtain⟨t,q⟩:=(show∃t,u=Value.int i t from rx);cases q;exact PySem.W.kia_one PySem.W.kitx_int I.kIn True.intro e (fun z=>nomatch z) h
 |str y=>obtain⟨t,q⟩:=(show∃t,u=Value.str y t from rx);cases q;exact PySem.W.kia_one PySem.W.kitx_str I.kIn True.intro e (fun z=>nomatch z) h
 | @lst a xs ea=>
  cases(show u=Value.ref a from rx)
  obtain⟨its,_,pl,_⟩:=I.list ea
  obtain⟨o,h1,h2,_⟩:=pl.isList
  exact PySem.W.kia_one PySem.W.kitx_list I.kIn ⟨o,h1,h2⟩ e (fun z=>nomatch z) h
 | @tup a xs ea=>
  cases(show u=Value.ref a from rx)
  obtain⟨its,_,pl,_⟩:=I.tuple ea
  obtain⟨o,h1,h2,_⟩:=pl
  exact PySem.W.kia_one PySem.W.kitx_tuple I.kIn ⟨o,h1,h2⟩ e (fun z=>nomatch z) h
 | @dK a kvs ep ea=>
  cases(show u=Value.ref a from rx)
  obtain⟨_,_,vs,_,p⟩:=(show Zan X.prog X.w H s.heap a (.dK kvs ep)from I.hok a _ ea)
  obtain⟨o,es,h1,h2,_⟩:=p
  exact PySem.W.kia_one PySem.W.kitx_dict I.kIn ⟨o,h1,h2.1⟩ e (fun z=>nomatch z) h
 | @dT a kvs ep bs ea=>
  cases(show u=Value.ref a from rx)
  obtain⟨_,_,xs,_,o,es,h1,h2,_⟩:=(show Zan X.prog X.w H s.heap a (.dT kvs ep bs)from I.hok a _ ea)
  exact PySem.W.kia_one PySem.W.kitx_dict I.kIn ⟨o,h1,h2.1⟩ e (fun z=>nomatch z) h
noncomputable def rIsI(K:PySem.W.Frag)(c:String):List V→Hp→VK→Prop:=fun xs H Q=>∃x t b,xs=[x,.ty c]∧TyX K H x t∧PySem.W.kitOne K (.type t) (.type c)=some b∧Q (.bl b) H
theorem Zmq{c:String}:Zbv X (.builtin "isinstance") (rIsI X.K c):=by
 intro pins s σ H xs us Q I r h
 obtain⟨x,t,b,rfl,ty,e,q⟩:=h
 obtain⟨u,w',rfl,r1,r2⟩:=Zrh r
 cases r2
 exact Zmp I r1 ty e fun tk=>⟨.bl b,H,I.tok _,rfl,q⟩
end
end L2
namespace DL
open PySem PySem.Spec PyProof.Rows L2
variable{K:PySem.W.Frag}
noncomputable def Zdd(xs:List D):List D:=xs.zipIdx.map fun p=>.tup [.int (p.2:Nat),p.1]
theorem Zfq{xs:List D}{i:Nat}{d:D}(h:(Zdd xs)[i]? =some d):∃x,xs[i]? =some x∧d= .tup [.int (i:Nat),x]:=by
 unfold Zdd at h
 rw[List.getElem?_map,List.getElem?_zipIdx]at h
 cases e:xs[i]? with
 |none=>rw[e]at h;cases h
 |some x=>rw[e]at h;cases h;exact⟨x,rfl,by simp⟩
theorem Zfr(xs:List D):(Zdd xs).length=xs.length:=by unfold Zdd;rw[List.length_map,List.length_zipIdx]
theorem Zg2{F:Hp}{a:Addr}{xs:List D}{vs:List V}(h:SqL K F a vs)(r:Reps K F xs vs):Zc9 K (Ite K a) F (Zdd xs):=fun F' H sF sH i=>by
 have q:SqL K H a vs:=Zab (sF.trans sH) h
 refine⟨fun d hd=>?_,fun hl=>⟨vs,q,by rw[←r.length,←Zfr];exact hl⟩⟩
 obtain⟨x,hx,rfl⟩:=Zfq hd
 obtain⟨v,h1,h2⟩:=r.get hx
 refine⟨⟨vs,v,q,h1⟩,fun y H' zq9=>?_⟩
 obtain⟨p,w,e1,e2,e3,e4⟩:=zq9
 subst e1 e3
 have e5:=e4 vs q
 rw[h1]at e5;cases e5
 have hp:F' p=none:=sH.free e2
 have sm:Same F' (addL F' [(p,.tup [.int (i:Nat),v])]):=Zat fun z hz=>by obtain rfl:=List.mem_singleton.mp hz;exact hp
 refine⟨Zbo e2,[(p,.tup [.int (i:Nat),v])],nd1,fun z hz=>?_,.tup Zv (.cons (.int _) (.cons (h2.mono (sF.trans sm)) .nil))⟩
 obtain rfl:=List.mem_singleton.mp hz
 exact⟨e2,Zv⟩
section
variable{Z:Ent K}{H:Hp}{σ:L2.St}{Q:VK}
@[simp] noncomputable def Zsk(fd:FD):FD:=fun δ=>(fd δ).bind fun p=>match p.1 with
 | [.lst xs]=>some (Zdd xs,p.2)
 |_=>none
theorem Zpj{fd:FD}{R:It→Hp→Prop}(h:Zbp Z (Zsk fd) σ H R):Zsj K (Za6 Z fd) σ H R:=by
 obtain⟨F,δ,own,ds,δ',s,e,k⟩:=h
 obtain⟨⟨ds1,δ1⟩,e1,e2⟩:=Option.bind_eq_some_iff.mp e
 refine⟨F,δ,own,ds1,δ1,s,e1,fun vs H1 F1 own1 sH sF s1 r1=>?_⟩
 dsimp only at e2
 split at e2
 ·rename_i xs
  cases e2
  cases r1 with
  |cons h t=>
   cases t
   cases h with
   |lst h r=>exact⟨_,_,rfl,Zab s1.le h,k _ H1 F1 own1 sH sF s1 (Zg2 h r)⟩
 ·cases e2
@[simp] noncomputable def D.ty:D→String
 | .str _=>"str"
 | .int _=>"int"
 | .lst _=>"list"
 | .dK _ _=>"dict"
 | .dT _ _=>"dict"
 |_=>"?"
@[simp] noncomputable def tyOk(T:String)(d:D):Bool:=T==d.ty&&(T=="str" ||T=="list" ||T=="dict")
theorem Zvr{F H:Hp}{d:D}{x:V}{T:String}(le:Same F H)(r:RepN K F H d x)(h:tyOk T d=true):tyV K T x H:=by
 unfold tyOk at h
 simp only[Bool.and_eq_true,beq_iff_eq]at h
 obtain⟨h1,h2⟩:=h
 subst h1
 cases d with
 |str y=>rw[r.str];rfl
 |lst xs=>
  obtain⟨a,vs,e,ha,_⟩:=r.lst le
  subst e
  exact .inl ⟨rfl,vs,ha⟩
 |dK ks vs=>
  obtain⟨a,kvs,e,⟨ep,ha⟩,_⟩:=r.dK le
  subst e
  exact .inr (.inr (.inl ⟨rfl,.inl ⟨kvs,ep,ha⟩⟩))
 |dT ks vs=>
  obtain⟨a,kvs,e,⟨ep,bs,ha⟩,_⟩:=r.dT le
  subst e
  exact .inr (.inr (.inl ⟨rfl,.inr ⟨kvs,ep,bs,ha⟩⟩))
 |non=>exact absurd (show("?"=="str" || "?"=="list" || "?"=="dict")=true from h2) (by decide)
 |bl b=>exact absurd (show("?"=="str" || "?"=="list" || "?"=="dict")=true from h2) (by decide)
 |int i=>exact absurd (show("int"=="str" || "int"=="list" || "int"=="dict")=true from h2) (by decide)
 |tup xs=>exact absurd (show("?"=="str" || "?"=="list" || "?"=="dict")=true from h2) (by decide)
 |exc C ks vs=>exact absurd (show("?"=="str" || "?"=="list" || "?"=="dict")=true from h2) (by decide)
@[simp] noncomputable def bmF(T:String)(g:List D→Option SV)(fo:FE)(fa:FA):FE:=fun δ=>(fo δ).bind fun p=>(rdv p.1 p.2).bind fun d0=>if tyOk T d0=true then(fa p.2).bind fun q=>(Zbg (p.1::q.1) q.2).bind fun ds=>(g ds).bind fun sv=>some (.tmp sv,q.2)else none
noncomputable def Zzk(Z:Ent K)(r:V→List V→Hp→VK→Prop)(g:List D→Option SV):Prop:=Zdv Z (fun vs H Q=>∃x xs,vs=x::xs∧r x xs H Q) g
end
@[simp] noncomputable def strs?:List D→Option (List Str)
 | []=>some []
 | .str x::r=>(strs? r).bind fun t=>some (x::t)
 |_=>none
theorem Zg3{F:Hp}:∀{ds:List D} {xs:List Str} {vs:List V},strs? ds=some xs→Reps K F ds vs→vs=xs.map V.str
 | [],_,_,e,r=>by cases e;cases r;rfl
 |d::r,xs,vs,e,q=>by
  cases q with
  |cons h t=>
   unfold strs? at e
   split at e
   ·rename_i e0;cases e0
   ·rename_i x r' e0
    cases e0
    obtain⟨ys,e1,e2⟩:=Option.bind_eq_some_iff.mp e
    cases e2
    cases h
    rw[Zg3 e1 t];rfl
   ·cases e
@[simp] noncomputable def Zzl:List D→Option SV
 | [.str sep,.lst xs]=>(strs? xs).bind fun ys=>if JoinOk sep ys=true then some (.fz (.str (Txt.join sep ys)))else none
 |_=>none
variable{Z:Ent K}
@[simp] noncomputable def D.pyTy:D→String
 | .non=>"NoneType"
 | .bl _=>"bool"
 | .int _=>"int"
 | .str _=>"str"
 | .tup _=>"tuple"
 | .lst _=>"list"
 | .dK _ _=>"dict"
 | .dT _ _=>"dict"
 | .exc _ _ _=>"?"
@[simp] noncomputable def D.isExc:D→Bool
 | .exc _ _ _=>true
 |_=>false
theorem Zpk{F H:Hp}{d:D}{x:V}(le:Same F H)(r:RepN K F H d x)(hx:d.isExc=false):TyX K H x d.pyTy:=by
 cases d with
 |exc C ks vs=>cases hx
 |non=>rw[r.non];exact .non
 |bl b=>rw[r.bl];exact .bl b
 |int i=>rw[r.int];exact .int i
 |str y=>rw[r.str];exact .str y
 |tup xs=>obtain⟨a,vs,e,ha,_⟩:=r.tup le;subst e;exact .tup ha
 |lst xs=>
  obtain⟨a,vs,e,ha,_⟩:=r.lst le
  subst e
  exact .lst ha
 |dK ks vs=>obtain⟨a,kvs,e,⟨ep,ha⟩,_⟩:=r.dK le;subst e;exact .dK ha
 |dT ks vs=>obtain⟨a,kvs,e,⟨ep,bs,ha⟩,_⟩:=r.dT le;subst e;exact .dT ha
@[simp] noncomputable def isiD(c:String)(d:D):Option SV:=if d.isExc=true then none else some (.fz (.bl (d.pyTy==c|| (c=="int" &&d.pyTy=="bool"))))
theorem Zvs{c:String}(hk:∀d:D,d.isExc=false→PySem.W.kitOne K (.type d.pyTy) (.type c)=some (d.pyTy==c|| (c=="int" &&d.pyTy=="bool"))):Zpa Z (fun x H Q=>rIsI K c [x,.ty c] H Q) (isiD c):=by
 intro F H σ δ own x d sv Q s r e k
 unfold isiD at e
 split at e
 ·cases e
 ·rename_i hx
  cases e
  have hx':d.isExc=false:=by cases z:d.isExc with
   |true=>exact absurd z hx
   |false=>rfl
  exact⟨x,_,_,rfl,Zpk s.le r hx',hk d hx',k.fz s (.bl _)⟩
@[simp] noncomputable def lenD:List D→Option SV
 | [.lst xs]=>some (.fz (.int (xs.length:Nat)))
 | [.tup xs]=>some (.fz (.int (xs.length:Nat)))
 | [.str x]=>if x.length≤PySem.sizeLine then some (.fz (.int (x.length:Nat)))else none
 |_=>none
theorem Zvt:Zdv Z (fun xs H Q=>(∃p ys,xs=[V.ref p]∧(SqL K H p ys∨SqT K H p ys)∧Q (.int ys.length) H)∨(∃z,xs=[V.str z]∧z.length≤PySem.sizeLine∧Q (.int z.length) H)) lenD:=by
 intro F H σ δ own vs ds sv Q s r e k
 unfold lenD at e
 split at e
 ·cases e
  cases r with
  |cons h t=>
   cases t
   obtain⟨a,us,ex,ha,ra⟩:=h.lst s.le
   subst ex
   exact .inl ⟨a,us,rfl,.inl ha,by rw[←ra.length];exact k.fz s (.int _)⟩
 ·cases e
  cases r with
  |cons h t=>
   cases t
   obtain⟨a,us,ex,ha,ra⟩:=h.tup s.le
   subst ex
   exact .inl ⟨a,us,rfl,.inr ha,by rw[←ra.length];exact k.fz s (.int _)⟩
 ·split at e
  ·rename_i hz
   cases e
   cases r with
   |cons h t=>
    cases t
    exact .inr ⟨_,by rw[h.str],hz,k.fz s (.int _)⟩
  ·cases e
 ·cases e
@[simp] noncomputable def Zki:List D→Option SV
 | [.lst xs]=>some (.ol xs)
 | [.tup xs]=>some (.ol xs)
 |_=>none
theorem Zsl:Zdv Z (fun xs H Q=>∃p ys,xs=[V.ref p]∧(SqL K H p ys∨SqT K H p ys)∧∀l,H l=none→Q (.ref l) (upd H l (.lst ys))) Zki:=by
 intro F H σ δ own vs ds sv Q s r e k
 unfold Zki at e
 split at e
 ·cases e
  cases r with
  |cons h t=>
   cases t
   obtain⟨a,us,ex,ha,ra⟩:=h.lst s.le
   subst ex
   exact⟨a,us,rfl,.inl ha,fun l hl=>k.lst s ra hl⟩
 ·cases e
  cases r with
  |cons h t=>
   cases t
   obtain⟨a,us,ex,ha,ra⟩:=h.tup s.le
   subst ex
   exact⟨a,us,rfl,.inr ha,fun l hl=>k.lst s ra hl⟩
 ·cases e
@[simp] noncomputable def Zxy:List D→Option SV
 | [.lst xs]=>some (.fz (.tup xs))
 |_=>none
@[simp] noncomputable def intD:List D→Option SV
 | [.int i]=>some (.fz (.int i))
 | [.bl b]=>some (.fz (.int (if b then 1 else 0)))
 |_=>none
theorem Zvu:Zdv Z (fun xs H Q=>(∃i,xs=[V.int i]∧Q (.int i) H)∨∃k,xs=[V.bl k]∧Q (.int (if k then 1 else 0)) H) intD:=by
 intro F H σ δ own vs ds sv Q s r e k
 unfold intD at e
 split at e
 ·cases e
  cases r with
  |cons h t=>cases t;exact .inl ⟨_,by rw[h.int],k.fz s (.int _)⟩
 ·cases e
  cases r with
  |cons h t=>cases t;exact .inr ⟨_,by rw[h.bl],k.fz s (.int _)⟩
 ·cases e
section
variable{X:Cx}{Z:Ent X.K}{a b c:Expr}{fa fb fc:FE}{pos:Pos}
theorem Zd(i:Nat){x:Str}{pos:Pos}(hN:X.N[i]? =some x:=by rfl)(hv:Vis X.env.scope x:=by first|exact Or.inl rfl|exact Or.inr (Or.inl rfl)|exact Or.inr (Or.inr rfl))(hd:(x==("__debug__":Str))=false:=by decide)
  (hcd:(x==("__classdict__":Str))=false:=by decide):PE X (.Name x pos) (Zb Z (Zc i)):=(Zji hN hv hd hcd).imp fun _ _ _ h=>Zvd h
theorem Zt{i:Int}{j:Nat}:PE X (.Constant (.int i) j pos) (Zb Z (Zf (.int i))):=Zqt.imp fun _ _ _ h=>Zeh (fun _=>.int _) h
theorem e_bl{i:Bool}{j:Nat}:PE X (.Constant (.bool i) j pos) (Zb Z (Zf (.bl i))):=Zuu.imp fun _ _ _ h=>Zeh (fun _=>.bl _) h
theorem Zfs{j:Nat}:PE X (.Constant .none j pos) (Zb Z (Zf .non)):=Zqu.imp fun _ _ _ h=>Zeh (fun _=>.non) h
theorem Zmr{i:Str}{j:Nat}:PE X (.Constant (.str i) j pos) (Zb Z (Zf (.str i))):=Zno.imp fun _ _ _ h=>Zeh (fun _=>.str _) h
theorem Zms{op:Operator}{r:R2}{g:D→D→Option SV}(ho:OpR X (binaryOp op) r)(hp:Za0 Z r g)(ha:PE X a (Zb Z fa))(hb:PE X b (Zb Z fb)):PE X (.BinOp a op b pos) (Zb Z (binF g fa fb)):=(Zux ho ha hb).imp fun _ _ _ h=>Zkb hp h
theorem Zbq(ha:PE X a (Zb Z fa))(hb:PE X b (Zb Z fb)):PE X (.BinOp a .Add b pos) (Zb Z (binF addD fa fb)):=Zms Zph Zvq ha hb
theorem Zh1(ha:PE X a (Zb Z fa))(hb:PE X b (Zb Z fb)):PE X (.BinOp a .FloorDiv b pos) (Zb Z (binF Zi0 fa fb)):=Zms Zor Zsb ha hb
theorem Zdw(ha:PE X a (Zb Z fa))(hb:PE X b (Zb Z fb)):PE X (.BinOp a .Mod b pos) (Zb Z (binF modD fa fb)):=Zms Zrd Zvp ha hb
theorem Zsm{op:CmpOp}{r:R2}{g:D→D→Option SV}(ho:OpR X (compareOp op) r)(hp:Za0 Z r g)(ha:PE X a (Zb Z fa))(hb:PE X b (Zb Z fb))(hm:behindInMarks op b=false):PE X (.Compare a [op] [b] pos) (Zb Z (binF g fa fb)):=(Zot ho ha hb hm).imp fun _ _ _ h=>Zkb hp h
theorem Zft{op:CmpOp}{r:R2}{g:D→D→Option SV}(ho:OpR X (compareOp op) r)(hp:Za0 Z r g)(ha:PE X a (Zb Z fa))(hb:PE X b (Zb Z fb))(hm:behindInMarks op b=false):PT X (.Compare a [op] [b] pos) (Z1 Z (Z9 (binF g fa fb))):=
 (Zou ho ha hb hm).imp fun σ H Q h=>by
  obtain⟨F,δ,own,rv,δ',s,e,k⟩:=Zkd h
  exact Zkb hp ⟨F,δ,own,rv,δ',s,e,k⟩
theorem Zvv(ha:PE X a (Zb Z fa))(hb:PE X b (Zb Z fb)):PE X (.Compare a [.Is] [b] pos) (Zb Z (binF isND fa fb)):=Zsm Znr Zse ha hb (Zb4 _)
theorem t_lt(ha:PE X a (Zb Z fa))(hb:PE X b (Zb Z fb)):PT X (.Compare a [.Lt] [b] pos) (Z1 Z (Z9 (binF ltD fa fb))):=Zft Zu0 p_lt ha hb (Zb4 _)
theorem t_gt(ha:PE X a (Zb Z fa))(hb:PE X b (Zb Z fb)):PT X (.Compare a [.Gt] [b] pos) (Z1 Z (Z9 (binF gtD fa fb))):=Zft Zu1 p_gt ha hb (Zb4 _)
theorem Zvw(ha:PE X a (Zb Z fa))(hb:PE X b (Zb Z fb)):PT X (.Compare a [.Is] [b] pos) (Z1 Z (Z9 (binF isND fa fb))):=Zft Znr Zse ha hb (Zb4 _)
theorem Zkj(ha:PE X a (Zb Z fa))(hb:PE X b (Zb Z fb)):PT X (.Compare a [.IsNot] [b] pos) (Z1 Z (Z9 (binF Zi1 fa fb))):=Zft Zos Zsf ha hb (Zb4 _)
theorem Zkk{f:FT}(ha:PT X a (Z1 Z f)):PW X (.BoolOp .And [a] pos) (Z1 Z f):=Zol ha
theorem Zmt{f:FT}(ha:PT X a (Z1 Z f)):PW X (.BoolOp .Or [a] pos) (Z1 Z f):=Zqw ha
theorem Zpl{f g:FT}{rest:List Expr}(ha:PT X a (Z1 Z f))(hb:PW X (.BoolOp .And (b::rest) pos) (Z1 Z g)):PW X (.BoolOp .And (a::b::rest) pos) (Z1 Z (andF f g)):=(Zqx ha hb).imp fun _ _ _ h=>Zvg h
theorem w_or{f g:FT}{rest:List Expr}(ha:PT X a (Z1 Z f))(hb:PW X (.BoolOp .Or (b::rest) pos) (Z1 Z g)):PW X (.BoolOp .Or (a::b::rest) pos) (Z1 Z (orF f g)):=(Zuv ha hb).imp fun _ _ _ h=>l_or h
theorem Zsn{f:FT}(ha:PT X a (Z1 Z f)):PT X (.UnaryOp .Not a pos) (Z1 Z (notF f)):=(Zqy ha).imp fun _ _ _ h=>Zvh h
theorem Zpm(h:PE X a (Zb Z fa))(he:∀whole,isTrue a X.env whole=(do let v←whole;standAt a.pos;holding [v] (truthy v)):=by intro _;rfl):PT X a (Z1 Z (Z9 fa)):=(Zqv h he).imp fun _ _ _ h=>Zpb h
theorem Zvx{op:BoolOp}(h:PE X a (Zb Z fa)):PE X (.BoolOp op [a] pos) (Zb Z fa):=Zq0 h
theorem Zvy{rest:List Expr}(ha:PE X a (Zb Z fa))(hb:PE X (.BoolOp .And (b::rest) pos) (Zb Z fb)):PE X (.BoolOp .And (a::b::rest) pos) (Zb Z (andV fa fb)):=(Zq1 ha hb).imp fun _ _ _ h=>Zr2 h
theorem e_if{t:FT}(hc:PT X c (Z1 Z t))(ha:PE X a (Zb Z fa))(hb:PE X b (Zb Z fb)):PE X (.IfExp c a b pos) (Zb Z (ifF t fa fb)):=(Zl8 hc ha hb).imp fun _ _ _ h=>l_if h
theorem Zag:PA X [] (Zby Z Zk):=Zhp.imp fun _ _ _ h=>Zmk h
theorem Zi{es:List Expr}{fr:FA}(ha:PE X a (Zb Z fa))(hr:PA X es (Zby Z fr))(hs:starEach (a::es) X.env=(false,eval a X.env)::starEach es X.env:=by rfl):PA X (a::es) (Zby Z (Za fa fr)):=(Zci ha hr hs).imp fun _ _ _ h=>Zj9 h
theorem Zau:PA X [] (Za6 Z Zp):=Zhp.imp fun _ _ _ h=>Zkc h
theorem Zq{es:List Expr}{fr:FD}(ha:PE X a (Zb Z fa))(hr:PA X es (Za6 Z fr))(hs:starEach (a::es) X.env=(false,eval a X.env)::starEach es X.env:=by rfl):PA X (a::es) (Za6 Z (Ze fa fr)):=(Zci ha hr hs).imp fun _ _ _ h=>Ziy h
theorem Zde{es:List Expr}{fd:FD}{k:Nat}(h:PA X es (Za6 Z fd)):PE X (.Tuple es k pos) (Zb Z (tupF fd)):=(Zri h).imp fun _ _ _ h=>Zve h
theorem Zdf{es:List Expr}{fd:FD}(h:PA X es (Za6 Z fd)):PE X (.List es pos) (Zb Z (lstF fd)):=(Zrj h).imp fun _ _ _ h=>Zvf h
theorem Zso:PO X none (Zfp Z Zkf):=fun pins s σ H Q I h=>Zow pins s σ H Q I (Zmo h)
theorem Zkl(ha:PE X a (Zb Z fa)):PO X (some a) (Zfp Z (Zkg fa)):=fun pins s σ H Q I h=>Zox ha pins s σ H Q I (Zsg h)
theorem e_sl{lo hi:Option Expr}{fl fh:FO}{p2:Pos}(ha:PE X a (Zb Z fa))(hl:PO X lo (Zfp Z fl))(hh:PO X hi (Zfp Z fh)):PE X (.Subscript a (.Slice lo hi none p2) pos) (Zb Z (slF slD fa fl fh)):=
 (Zmg (Zo0.or Zsi) ha hl hh).imp fun _ _ _ h=>l_sl p_sl h
theorem Zaa{k n:Nat}{f:Addr}{fd:FuncData}{ps:List Str}{g:List D→Option SV}{x:Str}{p:Pos}{es:List Expr}{fr:FA}(F:FnOk X.prog X.w X.K X.mg X.base CX0 k f fd ps (spOf X.K n g))(hr:Room k X.A)(hm:X.mg x=some (.ref f))(hk:PySem.W.keepIn X.K (.ref f)=true)(hb:Zbe X.K fd ps [])
  (ha:PA X (a::es) (Zby Z fr)) (hg:Gl X x:=by rfl) (hdb:(x==("__debug__":Str))=false:=by decide) (he:starEach (a::es) X.env=(false,eval a X.env)::starEach es X.env:=by rfl) (hpl:(backTo pos (starEach es X.env)).any (·.1)=false:=by rfl):
  PE X (.Call (.Name x p) (a::es) [] pos) (Zb Z (Zao n g fr)):=(Zjt F hr hg hm hk hb .nil Zrz ha hdb he hpl).imp fun _ _ _ h=>Znx h
theorem Zg4{id:String}{r:List V→Hp→VK→Prop}{g:List D→Option SV}{x:Str}{p:Pos}{es:List Expr}{fr:FA}(hc:Zbv X (.builtin id) r)(hp:Zdv Z r g)(hm:X.mg x=none)(hv:bootBuiltins x=some (.builtin id))(ha:PA X (a::es) (Zby Z fr))(hg:Gl X x:=by rfl)(hn:x≠"__name__":=by decide)(hdb:(x==("__debug__":Str))=false:=by decide)
  (he:starEach (a::es) X.env=(false,eval a X.env)::starEach es X.env:=by rfl) (hpl:(backTo pos (starEach es X.env)).any (·.1)=false:=by rfl):PE X (.Call (.Name x p) (a::es) [] pos) (Zb Z (Zaw g fr)):=(Zhr hc hg hm hv ha hn hdb he hpl).imp fun _ _ _ h=>Zka hp h
theorem Zkm{T:String}{r:List V→Hp→VK→Prop}{g:List D→Option SV}{x:Str}{p:Pos}{es:List Expr}{fr:FA}(hc:Zbv X (.type T) r)(hp:Zdv Z r g)(hm:X.mg x=none)(hv:bootBuiltins x=some (.type T))(ha:PA X (a::es) (Zby Z fr))(hg:Gl X x:=by rfl)(hn:x≠"__name__":=by decide)(hdb:(x==("__debug__":Str))=false:=by decide)
  (he:starEach (a::es) X.env=(false,eval a X.env)::starEach es X.env:=by rfl) (hpl:(backTo pos (starEach es X.env)).any (·.1)=false:=by rfl):PE X (.Call (.Name x p) (a::es) [] pos) (Zb Z (Zaw g fr)):=(Zjv hc hg hm hv ha hn hdb he hpl).imp fun _ _ _ h=>Zka hp h
theorem Zfu{p:Pos}(hm:X.mg "len"=none)(ha:PE X a (Zb Z fa))(hg:Gl X "len":=by rfl)(he:starEach [a] X.env=(false,eval a X.env)::starEach [] X.env:=by rfl)(hpl:(backTo pos (starEach [] X.env)).any (·.1)=false:=by rfl):PE X (.Call (.Name "len" p) [a] [] pos) (Zb Z (Zaw lenD (Za fa Zk))):=
 Zg4 (Zfe.or Zff) Zvt hm PySem.boot_len (Zi ha Zag he) hg (by decide) (by decide) he hpl
theorem Zn0{p:Pos}(hm:X.mg "list"=none)(ha:PE X a (Zb Z fa))(hg:Gl X "list":=by rfl)(he:starEach [a] X.env=(false,eval a X.env)::starEach [] X.env:=by rfl)(hpl:(backTo pos (starEach [] X.env)).any (·.1)=false:=by rfl):PE X (.Call (.Name "list" p) [a] [] pos) (Zb Z (Zaw Zki (Za fa Zk))):=
 Zkm Zfg Zsl hm boot_list (Zi ha Zag he) hg (by decide) (by decide) he hpl
theorem Zsp{p:Pos}(hm:X.mg "int"=none)(ha:PE X a (Zb Z fa))(hg:Gl X "int":=by rfl)(he:starEach [a] X.env=(false,eval a X.env)::starEach [] X.env:=by rfl)(hpl:(backTo pos (starEach [] X.env)).any (·.1)=false:=by rfl):PE X (.Call (.Name "int" p) [a] [] pos) (Zb Z (Zaw intD (Za fa Zk))):=
 Zkm Zjq Zvu hm boot_int (Zi ha Zag he) hg (by decide) (by decide) he hpl
theorem Zpn{x:Str}{c:String}{p p2:Pos}(hm:X.mg "isinstance"=none)(hmc:X.mg x=none)(hv:bootBuiltins x=some (.type c))(hk:∀d:D,d.isExc=false→PySem.W.kitOne X.K (.type d.pyTy) (.type c)=some (d.pyTy==c|| (c=="int" &&d.pyTy=="bool")))(ha:PE X a (Zb Z fa))(hg:Gl X "isinstance":=by rfl)(hgc:Gl X x:=by rfl)
  (hn:x≠"__name__":=by decide) (hdb:(x==("__debug__":Str))=false:=by decide)
  (he:starEach [a,.Name x p2] X.env=(false,eval a X.env)::starEach [.Name x p2] X.env:=by rfl) (he2:starEach [.Name x p2] X.env=(false,eval (.Name x p2) X.env)::starEach [] X.env:=by rfl) (hpl:(backTo pos (starEach [.Name x p2] X.env)).any (·.1)=false:=by rfl):
  PE X (.Call (.Name "isinstance" p) [a,.Name x p2] [] pos) (Zb Z (unF (isiD c) fa)):=
 (Zhr Zmq hg hm boot_isinstance (Zci ha (Zci (Zok (v:=.ty c) hgc hmc hv rfl hn hdb) Zhp he2) he) (by decide) (by decide) he hpl).imp fun σ H Q h=>by
  have h2:=l_un (Zvs hk) h
  exact h2
theorem Z8(i:Nat){x:Str}(hN:X.N.Nodup)(hi:X.N[i]? =some x:=by rfl)(hx:Loc X.env.scope x:=by first|exact Or.inl rfl|exact Or.inr rfl)(hf:X.fn x=true∨X.env.scope.names.lookup x=some .local:=by first|exact .inl rfl|exact .inr rfl):PG X (.Name x pos) (Zb7 Z (Zm i)):=(Zop hN hi hx hf).imp fun _ _ _ _ h=>Zpc h
theorem Zd3:PGs X [] (Zbs Z Zb8):=Zoq.imp fun _ _ _ _ h=>Zr7 h
theorem Zah{es:List Expr}{g:FG}{r:FGs}(h1:PG X a (Zb7 Z g))(h2:PGs X es (Zbs Z r))(hs:(assignEach (a::es) X.env).map (·.2)=assign a X.env::(assignEach es X.env).map (·.2):=by rfl):PGs X (a::es) (Zbs Z (Zw g r)):=(Zma h1 h2 hs).imp fun _ _ _ _ h=>Zpd h
theorem Zkn{es:List Expr}{k n:Nat}{g:FGs}(hc:X.calm=true)(h:PGs X es (Zbs Z g))(hn:(assignEach es X.env).length=n:=by rfl)(hst:(assignEach es X.env).findIdx? (·.1)=none:=by rfl):PG X (.Tuple es k pos) (Zb7 Z (Zb9 n g)):=(Zq6 hc h hn hst).imp fun _ _ _ _ h=>Zr8 h
theorem Zsq{tg:Expr}{p:Pos}(hm:X.mg "range"=none)(ha:PE X a (Zb Z fa))(hg:Gl X "range":=by rfl)(hs:starEach [a] X.env=[(false,eval a X.env)]:=by rfl):PI X tg (.Call (.Name "range" p) [a] [] pos) (Zbp Z (rngI (Za fa Zk))):=(Zjk hg hm (Zi ha Zag hs) hs).imp fun _ _ _ h=>Zr9 h
theorem Zca{N':List Str}{scope:Scope}{src:List BSrc}(kind:scope.kind= .function)(nocell:(scope.names.all fun y=>!(y.2== .cell))=true)(names:(scope.names.all fun y=>!(y.2== .local)|| (scope.names.lookup y.1==some .local))=true)
  (free:(scope.names.all fun y=>!(y.2== .free)|| (X.env.kindOf y.1==some .cell)|| (X.env.kindOf y.1==some .free))=true) (len:src.length=N'.length)
  (cap:((List.range src.length).all fun k=>match src[k]?,N'[k]? with
   |some (.cap j),some x=>(X.N[j]? ==some x)&&((X.env.kindOf x==some .cell)|| (X.env.kindOf x==some .free))&&(scope.names.lookup x==some .free)
   |some .acc,some x=>scope.names.lookup x==none
   |_,_=>true)=true):CompScope X N' scope src:=by
 have capk:∀(k:Nat) (q:BSrc) (x:Str),src[k]? =some q→N'[k]? =some x→(match some q,some x with
   |some (.cap j),some x=>(X.N[j]? ==some x)&&((X.env.kindOf x==some .cell)|| (X.env.kindOf x==some .free))&&(scope.names.lookup x==some .free)
   |some .acc,some x=>scope.names.lookup x==none
   |_,_=>true)=true:=fun k q x h1 h2=>by
  have hk:k<src.length:=(List.getElem?_eq_some_iff.mp h1).1
  have:=List.all_eq_true.mp cap k (List.mem_range.mpr hk)
  rw[h1,h2]at this
  exact this
 refine⟨kind,fun y hy e=>?_,fun y hy e=>?_,fun y hy e=>?_,len,fun k j x h1 h2=>?_,fun k x h1 h2=>?_⟩
 ·have:=List.all_eq_true.mp nocell y hy
  rw[e]at this;cases this
 ·have:=List.all_eq_true.mp names y hy
  rw[e]at this
  simpa using this
 ·have:=List.all_eq_true.mp free y hy
  rw[e]at this
  simpa using this
 ·have:=capk k (.cap j) x h1 h2
  simp only[Bool.and_eq_true,Bool.or_eq_true,beq_iff_eq]at this
  exact⟨this.1.1,this.1.2,this.2⟩
 ·have:=capk k .acc x h1 h2
  simpa using this
theorem Zmu{src:List BSrc}(k:Nat)(acc:src[k]? =some .acc)(uni:((List.range src.length).all fun i=>match src[i]? with
   |some .acc=>i==k
   |_=>true)=true):SrcOk src k:=⟨acc,fun i h=>by
  have hi:i<src.length:=(List.getElem?_eq_some_iff.mp h).1
  have:=List.all_eq_true.mp uni i (List.mem_range.mpr hi)
  rw[h]at this
  simpa using this⟩
theorem Zpo(K:PySem.W.Frag):∀d:D,d.isExc=false→PySem.W.kitOne K (.type d.pyTy) (.type "str")=some (d.pyTy=="str" || ("str"=="int" &&d.pyTy=="bool")):=by intro d h;cases d<;> first| (cases h;done)|with_unfolding_all rfl
theorem Zpp(K:PySem.W.Frag):∀d:D,d.isExc=false→PySem.W.kitOne K (.type d.pyTy) (.type "int")=some (d.pyTy=="int" || ("int"=="int" &&d.pyTy=="bool")):=by intro d h;cases d<;> first| (cases h;done)|with_unfolding_all rfl
theorem xg{tg:Expr}{g:FG}(h:∀Z:Ent X.K,PG X tg (Zb7 Z g)):PG X tg (xG X.K g):=fun pins s σ H v u Q I r ⟨Z,q⟩=>h Z pins s σ H v u Q I r q
theorem xe{e:Expr}{f:FE}(h:∀Z:Ent X.K,PE X e (Zb Z f)):PE X e (xE X.K f):=fun pins s σ H Q I ⟨Z,q⟩=>h Z pins s σ H Q I q
theorem xt{e:Expr}{f:FT}(h:∀Z:Ent X.K,PT X e (Z1 Z f)):PTs X [e] (xT X.K f):=fun pins s σ H Q I ⟨Z,q⟩=>Zo8 (h Z) pins s σ H Q I q
theorem xt0:PTs X [] (xT X.K Zg0):=fun pins s σ H Q I ⟨Z,q⟩=>by
 obtain⟨F,δ,own,b,δ',sr,e,k⟩:=q
 cases e
 exact Zo7 pins s σ H Q I (k H F own (Same.refl H) (Same.refl F) sr)
theorem Zko{N':List Str}{scope:Scope}{src:List BSrc}{k:Nat}{tg elt iter:Expr}{ifs:List Expr}{fi:FD}{g:FG}{tt:FT}{te:FE}(hc:X.calm=true)(S:CompScope X N' scope src)(So:SrcOk src k)(hk:k∉g.tch)(hi:PI X tg iter (Zbp Z fi))
  (hg:∀(C:Addr) (s₀:Shared) (H₀:Hp) (ex:List Addr),PG (X.block N' scope C s₀ H₀ ex) tg (xG X.K g)) (ht:∀(C:Addr) (s₀:Shared) (H₀:Hp) (ex:List Addr),PTs (X.block N' scope C s₀ H₀ ex) ifs (xT X.K tt)) (he:∀(C:Addr) (s₀:Shared) (H₀:Hp) (ex:List Addr),PE (X.block N' scope C s₀ H₀ ex) elt (xE X.K te))
  (hs:∀x,foldedSetIterable iter X.env x=pure x:=by intro _;rfl):PE X (.ListComp elt [⟨tg,iter,ifs,0⟩] scope pos) (Zb Z (Zg1 src k fi g tt te)):=(Zo9 hc S hi hg ht he hs).imp fun _ _ _ h=>Zny So hk h
theorem Zdg:PSs X [] (Z0 Z Zei):=Zom.imp fun _ _ _ h=>Zr3 h
theorem Zj{st:Stmt}{rest:List Stmt}{f g:FS}(h1:PS X st (Z0 Z f))(h2:PSs X rest (Z0 Z g)):PSs X (st::rest) (Z0 Z (seqF f g)):=(Zl9 h1 h2).imp fun _ _ _ h=>Zvj h
theorem Z2{st:Stmt}{f:FS}(h:PS X st (Z0 Z f)):PSs X [st] (Z0 Z f):=Zon h
noncomputable def Zxz:FS:=fun _=>none
theorem Zcb(h:PE X a (Zb Z fa)):PS X (.Return (some a) pos) (Z0 Z (retF fa)):=(Zq4 h).imp fun _ _ _ h=>Zvl h
theorem s_if{t:FT}{f g:FS}{bt be:List Stmt}(hc:PT X c (Z1 Z t))(ha:PSs X bt (Z0 Z f))(hb:PSs X be (Z0 Z g)):PS X (.If c bt be pos) (Z0 Z (ifS t f g)):=(Zuw hc ha hb).imp fun _ _ _ h=>Zvk h
theorem Zap(i:Nat){x:Str}{pos':Pos}(hN:X.N.Nodup)(he:PE X a (Zb Z fa))(hi:X.N[i]? =some x:=by rfl)(hx:Loc X.env.scope x:=by first|exact Or.inl rfl|exact Or.inr rfl)(hs:swapsWith a (some (.Name x pos')) pos.line X.env=pure false:=by rfl)(hf:X.fn x=true∨X.env.scope.names.lookup x=some .local:=by first|exact .inl rfl|exact .inr rfl):
  PS X (.Assign [.Name x pos'] a pos) (Z0 Z (setF i fa)):=(Zq8 hN hi hx he hs hf).imp fun _ _ _ h=>Zr4 h
theorem Zkp(i:Nat){N':List Str}{scope:Scope}{src:List BSrc}{k:Nat}{tg elt iter:Expr}{ifs:List Expr}{fi:FD}{g:FG}{tt:FT}{te:FE}{y:Str}{py spos:Pos}(hc:X.calm=true)(S:CompScope X N' scope src)(So:SrcOk src k)(hk:k∉g.tch)(hi:PI X tg iter (Zbp Z fi))
  (hg:∀(C:Addr) (s₀:Shared) (H₀:Hp) (ex:List Addr),PG (X.block N' scope C s₀ H₀ ex) tg (xG X.K g)) (ht:∀(C:Addr) (s₀:Shared) (H₀:Hp) (ex:List Addr),PTs (X.block N' scope C s₀ H₀ ex) ifs (xT X.K tt)) (he:∀(C:Addr) (s₀:Shared) (H₀:Hp) (ex:List Addr),PE (X.block N' scope C s₀ H₀ ex) elt (xE X.K te))
  (hN:X.N.Nodup) (hiy:X.N[i]? =some y:=by rfl) (hx:X.env.scope.names.lookup y=some .local:=by rfl) (hsw:swapsWith (.ListComp elt [⟨tg,iter,ifs,0⟩] scope pos) (some (.Name y py)) spos.line X.env=pure true:=by rfl)
  (hs:∀x,foldedSetIterable iter X.env x=pure x:=by intro _;rfl):PS X (.Assign [.Name y py] (.ListComp elt [⟨tg,iter,ifs,0⟩] scope pos) spos) (Z0 Z (setF i (Zg1 src k fi g tt te))):=
 (Ziv hc S hi hg ht he hN hiy hx hsw hs).imp fun D σ H h=>by
  obtain⟨F,δ,own,rv,δ',s,e,q⟩:=Zr4 h
  exact Zny So hk ⟨F,δ,own,rv,δ',s,e,q⟩
theorem Zmv{tg:Expr}{g:FG}(he:PE X a (Zb Z fa))(hg:PG X tg (Zb7 Z g))(hs:swapsWithSole [tg] a pos.line X.env=pure false:=by rfl)(hw:swappedStores [tg] a X.env=pure none:=by rfl)(h1:(assignEach [tg] X.env).map (·.2)=[assign tg X.env]:=by rfl):
  PS X (.Assign [tg] a pos) (Z0 Z (Zgy g fa)):=(Zq7 he hg hs hw h1).imp fun _ _ _ h=>Zmm h
theorem Zek{tg iter:Expr}{body:List Stmt}{fi:FD}{g:FG}{f:FS}(hp:PassesOwn (model X.prog X.w) X.A X.env X.xe)(hc:X.calm=true)(hi:PI X tg iter (Zbp Z fi))(hg:PG X tg (Zb7 Z g))(hb:PSs X body (Z0 Z f))(hs:∀x,foldedSetIterable iter X.env x=pure x:=by intro _;rfl):
  PS X (.For tg iter body [] pos) (Z0 Z (forF fi g f)):=(Zra hp hc hi hg hb hs).imp fun _ _ _ h=>Zvm h
theorem Zpq(n:Nat){t:FT}{body:List Stmt}{f:FS}(hp:PassesOwn (model X.prog X.w) X.A X.env X.xe)(hc:PT X c (Z1 Z t))(hb:PSs X body (Z0 Z f)):PS X (.While c body [] pos) (Z0 Z (Zbh t f n)):=(Zmb hp hc hb).imp fun _ _ _ h=>Zpe h
theorem Zsr(i:Nat){x:Str}{px apos cpos:Pos}(hb:PE X b (Zb Z fb))(hN:X.N[i]? =some x:=by rfl)(hv:Vis X.env.scope x:=by first|exact Or.inl rfl|exact Or.inr (Or.inl rfl)|exact Or.inr (Or.inr rfl))(hd:(x==("__debug__":Str))=false:=by decide)
  (hcd:(x==("__classdict__":Str))=false:=by decide) (hbase:attributeBase (.Name x px) "append" X.env (eval (.Name x px) X.env)=eval (.Name x px) X.env:=by rfl)
  (hfew:((backTo cpos (starEach [b] X.env)).all (fun x=>!x.1)&&(backToKw cpos (keywordEach [] X.env)).all (fun x=>x.1.isSome)&&decide ([b].length+([]:List Keyword).length+(if([]:List Keyword).isEmpty then 0 else 1)<30))=true:=by rfl)
  (hline:(apos.endLine==cpos.line)=true:=by rfl) (hs:starEach [b] X.env=(false,eval b X.env)::starEach [] X.env:=by rfl) (hpl:(backTo cpos (starEach [] X.env)).any (·.1)=false:=by rfl) (hsw:swapsWith (.Call (.Attribute (.Name x px) "append" apos) [b] [] cpos) none pos.line X.env=pure false:=by rfl):
  PS X (.Expr (.Call (.Attribute (.Name x px) "append" apos) [b] [] cpos) pos) (Z0 Z (appF i fb)):=
 (Zoo (Zrr PySem.F.plainAttrs_list PySem.F.slot_list_append PySem.F.type_list_append Zfh (Zji (i:=i) hN hv hd hcd) (Zci hb Zhp hs) hbase hfew hline hs hpl) hsw).imp fun _ _ _ h=>Zvn h
end
@[simp] noncomputable def Zcc(f:FS)(n:Nat)(ds:List D):Option SV:=match f (Zfo n ds)with
 |some (.rt sv)=>some sv
 |some (.nx _)=>some (.fz .non)
 |_=>none
theorem Zel{N:List Str}{n:Nat}{f:FS}{vs:List V}{H:Hp}{Q:VK}{E:XK}(h:spOf K n (Zcc f N.length) vs H Q E):∃F,Z0 (ent H F:Ent K) f {nx:=fun _ H'=>Q .non H',rt:=Q} (L2.Zcj N vs) H:=by
 obtain⟨F,ds,sv,le,r,hn,e,k⟩:=h
 unfold Zcc at e
 split at e
 ·rename_i sw hf
  cases e
  exact⟨F,F,_,_,.rt sv,Zhy (N:=N) le r,hf,fun v H' F' ns a b c d e' nd ok=>k v H' F' ns d a b c e' nd ok⟩
 ·rename_i δ hf
  cases e
  exact⟨F,F,_,_,.nx δ,Zhy (N:=N) le r,hf,fun σ' H' F' own' a s'=>k .non H' F' [] s'.old a s'.le s'.fro (.fz .non) List.nodup_nil fun _ h=>(nomatch h)⟩
 ·cases e
noncomputable def Zzm(K:PySem.W.Frag):Sp:=fun vs H Q _=>∃(a:Addr) (ns:List Int),vs=[.ref a]∧SqL K H a (ns.map V.int)∧ns.length≤63∧∀H',Q (.bl true) H'
theorem Zh2{F:Hp}:∀ns:List Int,Reps K F (ns.map D.int) (ns.map V.int)
 | []=>.nil
 |n::r=>.cons (.int n) (Zh2 r)
end DL
namespace DL
open PySem PySem.Spec PyProof.Rows L2
variable{K:PySem.W.Frag}
@[simp] noncomputable def Zdh(f:D→D→Option Bool):List D→List D→Option Bool
 |x::xs,y::ys=>(f x y).bind fun b=>(Zdh f xs ys).bind fun c=>some (b&&c)
 |_,_=>some true
@[simp] noncomputable def Zcy(f:D→D→Option Bool):D→D→Option Bool
 | .lst xs,.lst ys=>if xs.length=ys.length then Zdh f xs ys else some false
 | .tup xs,.tup ys=>(Zdh f xs ys).bind fun b=>some (b&&decide (xs.length=ys.length))
 | .lst _,.tup _=>some false
 | .tup _,.lst _=>some false
 |d1,d2=>eqS d1 d2
@[simp] noncomputable def eqN:Nat→D→D→Option Bool
 |0=>fun _ _=>none
 |n+1=>Zcy (eqN n)
theorem Zc3{F H:Hp}{d1 d2:D}{x y:V}{b:Bool}(e:eqS d1 d2=some b)(r1:RepN K F H d1 x)(r2:RepN K F H d2 y):Z6 x=true∧Z6 y=true∧b=eqV x y:=by
 unfold eqS at e
 split at e<;> cases e<;> (first|obtain rfl:=r1.non|obtain rfl:=r1.int|obtain rfl:=r1.bl|obtain rfl:=r1.str)<;> (first|obtain rfl:=r2.non|obtain rfl:=r2.int|obtain rfl:=r2.bl|obtain rfl:=r2.str)<;> refine⟨rfl,rfl,?_⟩<;> first|rfl|simp[eqV]
section
variable{X:Cx}{pins:List (Addr×Obj)}{σ:L2.St}{F H:Hp}{s:Shared}
theorem Zmw{x y:V}{v:Value}(rx:RelV x v)(ry:RelV y v)(fx:Z6 x=true)(fy:Z6 y=true):eqV x y=true:=by
 cases x with
 |non=>cases rx;cases y with
  |non=>rfl
  |bl b=>cases ry
  |int b=>obtain⟨t,e⟩:=ry;cases e
  |str b=>obtain⟨t,e⟩:=ry;cases e
  |_=>cases fy
 |bl a=>cases rx;cases y with
  |non=>cases ry
  |bl b=>cases ry;simp[eqV]
  |int b=>obtain⟨t,e⟩:=ry;cases e
  |str b=>obtain⟨t,e⟩:=ry;cases e
  |_=>cases fy
 |int a=>obtain⟨t,rfl⟩:=rx;cases y with
  |non=>cases ry
  |bl b=>cases ry
  |int b=>obtain⟨t,e⟩:=ry;cases e;simp[eqV]
  |str b=>obtain⟨t,e⟩:=ry;cases e
  |_=>cases fy
 |str a=>obtain⟨t,rfl⟩:=rx;cases y with
  |non=>cases ry
  |bl b=>cases ry
  |int b=>obtain⟨t,e⟩:=ry;cases e
  |str b=>obtain⟨t,e⟩:=ry;cases e;simp[eqV]
  |_=>cases fy
 |_=>cases fx
theorem Zi2{h:Heap}{a:Addr}{i1 i2:Array Value}(h1:h.IsList a i1)(h2:h.IsList a i2):i1=i2:=by
 obtain⟨o,e1,c1,n1,d1⟩:=h1
 obtain⟨o2,e2,c2,n2,d2⟩:=h2
 rw[e1]at e2;cases e2
 rw[d1]at d2;cases d2;rfl
theorem Zg5{h:Heap}{a:Addr}{i1 i2:Array Value}(h1:h.IsTuple a i1)(h2:h.IsTuple a i2):i1=i2:=by
 obtain⟨o,e1,c1,n1,d1⟩:=h1
 obtain⟨o2,e2,c2,n2,d2⟩:=h2
 rw[e1]at e2;cases e2
 rw[d1]at d2;cases d2;rfl
theorem Zkq{f:D→D→Option Bool}(hf:∀d1 d2 b x y v,Rep X.K F d1 x→RelV x v→Rep X.K F d2 y→RelV y v→f d1 d2=some b→b=true){xs:List D}:∀{ys:List D} {vs ws:List V} {us:List Value} {b:Bool},Reps X.K F xs vs→Vals vs us→Reps X.K F ys ws→Vals ws us→Zdh f xs ys=some b→b=true:=by
 induction xs with
 |nil=>intro ys vs ws us b _ _ _ _ e;cases e;rfl
 |cons x xs ih=>
  intro ys vs ws us b r1 v1 r2 v2 e
  cases r1 with
  |cons h1 t1=>
   cases v1 with
   |cons a1 w1=>
    cases v2 with
    |cons a2 w2=>
     cases r2 with
     |cons h2 t2=>
      obtain⟨b,e1,e2⟩:=Option.bind_eq_some_iff.mp e
      obtain⟨c,e3,e4⟩:=Option.bind_eq_some_iff.mp e2
      cases e4
      rw[hf _ _ _ _ _ _ h1 a1 h2 a2 e1,ih t1 w1 t2 w2 e3];rfl
theorem Zfv(I:Inv X pins σ H s)(le:Same F H){f:D→D→Option Bool}(ih:∀(d1 d2:D) (b:Bool) (x y:V) (v:Value),Rep X.K F d1 x→RelV x v→Rep X.K F d2 y→RelV y v→f d1 d2=some b→b=true)(d1 d2:D)(b:Bool)(x y:V)(v:Value)(r1:Rep X.K F d1 x)(v1:RelV x v)(r2:Rep X.K F d2 y)(v2:RelV y v)(e:Zcy f d1 d2=some b):b=true:=by
  unfold Zcy at e
  split at e
  ·rename_i xs ys
   cases r1 with
   |lst q1 p1=>
   cases r2 with
   |lst q2 p2=>
   cases v1;cases v2
   obtain⟨i1,w1,l1,_⟩:=I.list (Zab le q1)
   obtain⟨i2,w2,l2,_⟩:=I.list (Zab le q2)
   have z:=Zi2 l1.isList l2.isList
   have z:i1=i2:=by simpa using z
   subst z
   split at e
   ·exact Zkq (ih) p1 w1 p2 w2 e
   ·rename_i hl
    have h1:=w1.length
    have h2:=w2.length
    have h3:=p1.length
    have h4:=p2.length
    exact absurd (by omega) hl
  ·rename_i xs ys
   cases r1 with
   |tup q1 p1=>
   cases r2 with
   |tup q2 p2=>
   cases v1;cases v2
   obtain⟨i1,w1,l1,_⟩:=I.tuple (Zas le (Zdu q1))
   obtain⟨i2,w2,l2,_⟩:=I.tuple (Zas le (Zdu q2))
   have z:=Zg5 l1 l2
   have z:i1=i2:=by simpa using z
   subst z
   obtain⟨c,e1,e2⟩:=Option.bind_eq_some_iff.mp e
   cases e2
   have h1:=w1.length
   have h2:=w2.length
   have h3:=p1.length
   have h4:=p2.length
   rw[Zkq (ih) p1 w1 p2 w2 e1,decide_eq_true (by omega)];rfl
  ·cases r1 with
   |lst q1 p1=>
   cases r2 with
   |tup q2 p2=>
   cases v1;cases v2
   obtain⟨i1,w1,l1,_⟩:=I.list (Zab le q1)
   obtain⟨i2,w2,l2,_⟩:=I.tuple (Zas le (Zdu q2))
   exact absurd rfl (SeqAt.ne_of_list_tuple (s:=s) l1.isList l2)
  ·cases r1 with
   |tup q1 p1=>
   cases r2 with
   |lst q2 p2=>
   cases v1;cases v2
   obtain⟨i1,w1,l1,_⟩:=I.tuple (Zas le (Zdu q1))
   obtain⟨i2,w2,l2,_⟩:=I.list (Zab le q2)
   exact absurd rfl (SeqAt.ne_of_list_tuple (s:=s) l2.isList l1)
  ·obtain⟨f1,f2,rfl⟩:=Zc3 (H:=H) e (RepN.of r1) (RepN.of r2)
   exact Zmw v1 v2 f1 f2
theorem Zh3(I:Inv X pins σ H s)(le:Same F H):∀(n:Nat) (d1 d2:D) (b:Bool) (x y:V) (v:Value),Rep X.K F d1 x→RelV x v→Rep X.K F d2 y→RelV y v→eqN n d1 d2=some b→b=true
 |0,_,_,_,_,_,_,_,_,_,_,e=>by cases e
 |n+1,d1,d2,b,x,y,v,r1,v1,r2,v2,e=>Zfv I le (Zh3 I le n) d1 d2 b x y v r1 v1 r2 v2 e
theorem Zh4{A:Around}{f:D→D→Option Bool}(hf:∀d1 d2 b x y v u,Rep X.K F d1 x→RelV x v→Rep X.K F d2 y→RelV y u→f d1 d2=some b→SeqAt.EqAt A s v u b){xs:List D}:∀{ys:List D} {vs ws:List V} {us zs:List Value} {b:Bool},Reps X.K F xs vs→Vals vs us→Reps X.K F ys ws→Vals ws zs→Zdh f xs ys=some b→
  ∃e:Nat→Bool,(∀j (h1:j<us.length) (h2:j<zs.length),SeqAt.EqAt A s us[j] zs[j] (e j))∧(List.range (min us.length zs.length)).all e=b:=by
 induction xs with
 |nil=>
  intro ys vs ws us zs b r1 v1 _ _ e
  cases r1
  cases v1
  cases e
  exact⟨fun _=>true,fun j h1=>absurd h1 (Nat.not_lt_zero _),by rw[List.length_nil,Nat.zero_min];rfl⟩
 |cons x xs ih=>
  intro ys vs ws us zs b r1 v1 r2 v2 e
  cases r1 with
  |cons h1 t1=>
   cases v1 with
   |cons a1 w1=>
    cases v2 with
    |nil=>
     cases r2
     cases e
     exact⟨fun _=>true,fun j _ h2=>absurd h2 (Nat.not_lt_zero _),by rw[List.length_nil,Nat.min_zero];rfl⟩
    |cons a2 w2=>
     cases r2 with
     |cons h2 t2=>
      obtain⟨b,e1,e2⟩:=Option.bind_eq_some_iff.mp e
      obtain⟨c,e3,e4⟩:=Option.bind_eq_some_iff.mp e2
      cases e4
      obtain⟨g,g1,g2⟩:=ih t1 w1 t2 w2 e3
      refine⟨fun j=>Nat.casesOn j b g,fun j h1 h2=>?_,?_⟩
      ·cases j with
       |zero=>exact hf _ _ _ _ _ _ _ ‹_› a1 ‹_› a2 e1
       |succ j=>exact g1 j (Nat.lt_of_succ_lt_succ h1) (Nat.lt_of_succ_lt_succ h2)
      ·rw[List.length_cons,List.length_cons,Nat.succ_min_succ,List.range_succ_eq_map,List.all_cons,List.all_map,←g2]
       rfl
theorem rcN(I:Inv X pins σ H s)(le:Same F H){A:Around}{f:D→D→Option Bool}{d1 d2:D}{b:Bool}{x y:V}{v u:Value}
  (ih:∀d1 d2 b x y v u,Rep X.K F d1 x→RelV x v→Rep X.K F d2 y→RelV y u→f d1 d2=some b→SeqAt.EqAt A.in1 s v u b) (r1:RepN X.K F H d1 x) (v1:RelV x v) (r2:RepN X.K F H d2 y) (v2:RelV y u)
  (e:Zcy f d1 d2=some b) (hu:A.units<cLine) (hr:Z6 x=false∨Z6 y=false):(∃a c,v= .ref a∧u= .ref c)∧SeqAt.RcAt A s v u b∧SeqAt.RcNeAt A s v u (!b):=by
 unfold Zcy at e
 split at e
 ·obtain⟨a1,vs1,rfl,q1,p1⟩:=r1.lst le
  obtain⟨a2,vs2,rfl,q2,p2⟩:=r2.lst le
  cases v1;cases v2
  obtain⟨i1,w1,l1,_⟩:=I.list q1
  obtain⟨i2,w2,l2,_⟩:=I.list q2
  have h1:=w1.length
  have h2:=w2.length
  have h3:=p1.length
  have h4:=p2.length
  refine⟨⟨_,_,rfl,rfl⟩,?_⟩
  split at e
  ·rename_i hl
   obtain⟨g,g1,g2⟩:=Zh4 ih p1 w1 p2 w2 e
   have hm:min i1.length i2.length=i1.toArray.size:=by simp;omega
   rw[hm]at g2
   subst g2
   have hz:i1.toArray.size=i2.toArray.size:=by simp;omega
   exact⟨SeqAt.RcAt.lists l1.isList l2.isList hz hu (fun j j1 j2=>by simpa using g1 j (by simpa using j1) (by simpa using j2)),SeqAt.RcNeAt.lists l1.isList l2.isList hz hu (fun j j1 j2=>by simpa using g1 j (by simpa using j1) (by simpa using j2))⟩
  ·rename_i hl
   cases e
   have hz:(i1.toArray.size !=i2.toArray.size)=true:=by simp;omega
   exact⟨SeqAt.RcAt.lists_lengths l1.isList l2.isList hz hu,SeqAt.RcNeAt.lists_lengths l1.isList l2.isList hz hu⟩
 ·rename_i xs ys
  obtain⟨a1,vs1,rfl,q1,p1⟩:=r1.tup le
  obtain⟨a2,vs2,rfl,q2,p2⟩:=r2.tup le
  cases v1;cases v2
  obtain⟨i1,w1,l1,_⟩:=I.tuple q1
  obtain⟨i2,w2,l2,_⟩:=I.tuple q2
  have h1:=w1.length
  have h2:=w2.length
  have h3:=p1.length
  have h4:=p2.length
  obtain⟨c,e1,e2⟩:=Option.bind_eq_some_iff.mp e
  cases e2
  refine⟨⟨_,_,rfl,rfl⟩,?_⟩
  obtain⟨g,g1,g2⟩:=Zh4 ih p1 w1 p2 w2 e1
  subst g2
  have e3:((List.range (min i1.length i2.length)).all g&&decide (xs.length=ys.length))=((List.range (min i1.toArray.size i2.toArray.size)).all g&&i1.toArray.size==i2.toArray.size):=by
   have:(i1.toArray.size==i2.toArray.size)=decide (xs.length=ys.length):=by
    rw[List.size_toArray,List.size_toArray,←h1,←h2,←h3,←h4];rfl
   rw[this];simp
  rw[e3]
  exact⟨SeqAt.RcAt.tuples l1 l2 hu (fun j j1 j2=>by simpa using g1 j (by simpa using j1) (by simpa using j2)),SeqAt.RcNeAt.tuples l1 l2 hu (fun j j1 j2=>by simpa using g1 j (by simpa using j1) (by simpa using j2))⟩
 ·obtain⟨a1,vs1,rfl,q1,p1⟩:=r1.lst le
  obtain⟨a2,vs2,rfl,q2,p2⟩:=r2.tup le
  cases v1;cases v2
  cases e
  obtain⟨i1,w1,l1,_⟩:=I.list q1
  obtain⟨i2,w2,l2,_⟩:=I.tuple q2
  exact⟨⟨_,_,rfl,rfl⟩,SeqAt.RcAt.list_tuple l1.isList l2 hu,SeqAt.RcNeAt.list_tuple l1.isList l2 hu⟩
 ·obtain⟨a1,vs1,rfl,q1,p1⟩:=r1.tup le
  obtain⟨a2,vs2,rfl,q2,p2⟩:=r2.lst le
  cases v1;cases v2
  cases e
  obtain⟨i1,w1,l1,_⟩:=I.tuple q1
  obtain⟨i2,w2,l2,_⟩:=I.list q2
  exact⟨⟨_,_,rfl,rfl⟩,SeqAt.RcAt.tuple_list l1 l2.isList hu,SeqAt.RcNeAt.tuple_list l1 l2.isList hu⟩
 ·obtain⟨f1,f2,_⟩:=Zc3 e r1 r2
  rcases hr with hr|hr
  ·rw[f1]at hr;cases hr
  ·rw[f2]at hr;cases hr
theorem Zn1(I:Inv X pins σ H s)(le:Same F H):∀(n:Nat) (A:Around) (d1 d2:D) (b:Bool) (x y:V) (v u:Value),A.units+n<cLine→Rep X.K F d1 x→RelV x v→Rep X.K F d2 y→RelV y u→eqN n d1 d2=some b→SeqAt.EqAt A s v u b
 |0,_,_,_,_,_,_,_,_,_,_,_,_,_,e=>by cases e
 |n+1,A,d1,d2,b,x,y,v,u,hu,r1,v1,r2,v2,e=>by
  by_cases hf:Z6 x=true∧Z6 y=true
  ·have e':eqS d1 d2=some b:=by
    unfold eqN Zcy at e
    split at e
    ·cases r1;cases hf.1
    ·cases r1;cases hf.1
    ·cases r1;cases hf.1
    ·cases r1;cases hf.1
    ·exact e
   obtain⟨f1,f2,rfl⟩:=Zc3 (H:=H) e' (RepN.of r1) (RepN.of r2)
   exact Zns v1 v2 f1 f2
  ·have hf':Z6 x=false∨Z6 y=false:=by
    cases h1:Z6 x with
    |false=>exact .inl rfl
    |true=>cases h2:Z6 y with
     |false=>exact .inr rfl
     |true=>exact absurd ⟨h1,h2⟩ hf
   obtain⟨⟨a,c,rfl,rfl⟩,h1,_⟩:=rcN I le (A:=A) (f:=eqN n) (fun d1 d2 b x y v u q1 w1 q2 w2 e=>Zn1 I le n A.in1 d1 d2 b x y v u (by have:A.in1.units=A.units+1:=rfl;omega) q1 w1 q2 w2 e) (RepN.of r1) v1 (RepN.of r2) v2 e (by omega) hf'
   by_cases hac:a=c
   ·subst hac
    rw[Zh3 I le (n+1) d1 d2 b x y _ r1 v1 r2 v2 e]
    exact SeqAt.EqAt.same _
   ·exact SeqAt.EqAt.of_refs hac h1
noncomputable def rEqN(K:PySem.W.Frag)(neg:Bool):R2:=fun x y H Q=>∃F d1 d2 b,Same F H∧RepN K F H d1 x∧RepN K F H d2 y∧eqN 48 d1 d2=some b∧(Z6 x=false∨Z6 y=false)∧Q (.bl (if neg then !b else b)) H
end
@[simp] noncomputable def D.isFlat:D→Bool
 | .non=>true| .bl _=>true| .int _=>true| .str _=>true|_=>false
@[simp] noncomputable def eqX(d1 d2:D):Option SV:=if d1.isFlat=true∧d2.isFlat=true then eqD d1 d2 else(eqN 48 d1 d2).bind fun b=>some (.fz (.bl b))
@[simp] noncomputable def neX(d1 d2:D):Option SV:=if d1.isFlat=true∧d2.isFlat=true then neD d1 d2 else(eqN 48 d1 d2).bind fun b=>some (.fz (.bl !b))
theorem Zd4{F H:Hp}{d:D}{x:V}(r:RepN K F H d x)(h:d.isFlat=false):Z6 x=false:=by
 obtain⟨sv,ns,e,n,sh,hp⟩:=r
 cases sh with
 |fz r=>cases e;cases r<;> first|rfl|cases h
 |ol r=>rfl
 |oK e' r=>rfl
 |oT kb e' r=>rfl
 |oN e' r=>rfl
 |oL _ r=>rfl
 |oQ e' r=>rfl
section
variable{Z:Ent K}
@[simp] noncomputable def negD:D→Option SV
 | .int i=>some (.fz (.int (-i)))
 |_=>none
theorem Zvz:Zpa Z (rU fun i=>.int (-i)) negD:=by
 intro F H σ δ own x d sv Q s r e k
 unfold negD at e
 split at e
 ·cases e;exact⟨_,r.int,k.fz s (.int _)⟩
 ·cases e
end
section
variable{X:Cx}{Z:Ent X.K}{a b c:Expr}{fa fb fc:FE}{pos:Pos}
theorem Zv0(ha:PE X a (Zb Z fa)):PE X (.UnaryOp .USub a pos) (Zb Z (unF negD fa)):=(Zuy Zre ha).imp fun _ _ _ h=>l_un Zvz h
end
end DL
namespace L2
open PySem PySem.Spec PyProof.Rows
section
variable{X:Cx}{tg:Expr}
noncomputable def Its(z:Str):It:=⟨fun i _=>i<z.length,fun i H x H'=>H'=H∧∃c,z.cps[i]? =some c∧x= .str ⟨#[c]⟩,fun i _=>z.length≤i⟩
theorem Zkr{P:Program}{w:World}{K:PySem.W.Frag}{tg:Expr}(z:Str)(t:Tok)(it:Addr):Turn P w K tg (Its z) [it] it (fun i h=>h.IsStrIter it (strIterType z) z t i)where
 mem:=by simp
 obj:=fun i h st b hb=>by
  have e:b=it:=by simpa using hb
  subst e
  obtain⟨o,e,c,d⟩:=st
  exact⟨o,e,fun v q=>by rw[d]at q;cases q⟩
 keep:=fun i h h' st k=>by
  obtain⟨o,e,c,d⟩:=st
  exact⟨o,k it (by simp) o e,c,d⟩
 item:=by
  intro X hP hw hK hc i pins s σ H E I hf st hg
  subst hP hw hK
  obtain⟨f0,f1,f2,f3,f4,f5⟩:=hf it (by simp)
  have hlt:i<z.cps.size:=hg
  have hx:z.cps[i]? =some z.cps[i]:=by simp[hlt]
  have fin:∀h',h'.IsStrIter it (strIterType z) z t (i+1)→Heap.SameBut it s.heap h'→∃u,some (Value.str ⟨#[z.cps[i]]⟩ s.toks)=some u∧wpAny (model X.prog X.w) X.A (letOwnedTupleGo tg (.ref it) u) (fun _ s2=>∃x H',Inv X pins σ H' s2∧RelV x u∧(Its z).yld i H x H'∧s2.heap.IsStrIter it (strIterType z) z t (i+1)∧∀b∈[it],H' b=none) E {s with heap:=h',toks:=s.toks+1}:=fun h' st' sb=>by
   have I1:Inv X pins σ H {s with heap:=h',toks:=s.toks+1}:=I.turned (t':=s.toks+1) (fun b o hb q=>(sb.2 b hb).trans q) f0 f1 f3 f4 f5
   obtain⟨o,e,c,d⟩:=id st'
   have hn:["enumerate","zip","dict_itemiterator","dict_reverseitemiterator","odict_iterator","itertools.zip_longest","itertools.pairwise"].contains (strIterType z)=false:=by
    unfold strIterType
    split<;> decide
   exact⟨_,rfl,Zmc (s:={s with heap:=h',toks:=s.toks+1}) e c d hn ⟨.str ⟨#[z.cps[i]]⟩,H,I1,⟨_,rfl⟩,⟨rfl,_,hx,rfl⟩,st',fun b hb=>(hf b hb).1⟩⟩
  cases ha:z.cps.all (· <128)with
  |false=>
   have et:strIterType z="str_iterator":=by unfold strIterType;rw[ha];rfl
   rw[et]at st fin
   rw[et]
   exact wpAny_pyNext_wide_item st hx fin
  |true=>
   have et:strIterType z="str_ascii_iterator":=by unfold strIterType;rw[ha];rfl
   rw[et]at st fin
   rw[et]
   exact wpAny_pyNext_ascii_item st hx fin
 done:=by
  intro X hP hw hK hc i pins s σ H E I hf st hg
  subst hP hw hK
  obtain⟨f0,f1,f2,f3,f4,f5⟩:=hf it (by simp)
  have hge:z.cps.size≤i:=hg
  have hx:z.cps[i]? =none:=by simp[hge]
  cases ha:z.cps.all (· <128)with
  |false=>
   have et:strIterType z="str_iterator":=by unfold strIterType;rw[ha];rfl
   rw[et]at st
   exact wpAny_pyNext_wide_end (I.ok.hd hc) st hx fun h' eb=>⟨rfl,I.turned (t':=s.toks) (fun b o hb q=>eb b o hb q) f0 f1 f3 f4 f5⟩
  |true=>
   have et:strIterType z="str_ascii_iterator":=by unfold strIterType;rw[ha];rfl
   rw[et]at st
   exact wpAny_pyNext_ascii_end (I.ok.hd hc) st hx fun h' eb=>⟨rfl,I.turned (t':=s.toks) (fun b o hb q=>eb b o hb q) f0 f1 f3 f4 f5⟩
 self:=fun _ _ _ _ _ st h=>by
  cases ha:z.cps.all (· <128)with
  |false=>
   have et:strIterType z="str_iterator":=by unfold strIterType;rw[ha];rfl
   rw[et]at st
   exact wpAny_pyIter_striter_wide st h
  |true=>
   have et:strIterType z="str_ascii_iterator":=by unfold strIterType;rw[ha];rfl
   rw[et]at st
   exact wpAny_pyIter_striter_ascii st h
noncomputable def iAny(K:PySem.W.Frag)(tl:TE):TI:=fun σ H R=>tl σ H fun x H1=>(∃a,x= .ref a∧(∃xs,SqL K H1 a xs)∧R (Itl K a) H1)∨(∃a,x= .ref a∧(∃xs,SqT K H1 a xs)∧R (Itt K a) H1)∨(∃z,x= .str z∧R (Its z) H1)
theorem Zss{l:Expr}{tl:TE}(hl:PE X l tl):PI X tg l (iAny X.K tl):=by
 intro pins s σ H R I h
 refine thn (hl pins s σ H _ I h) fun v s1 zq9=>?_
 obtain⟨x,H1,I1,r1,q1⟩:=zq9
 rcases q1 with⟨a,e,⟨xs,hq⟩,q⟩|⟨a,e,⟨xs,hq⟩,q⟩|⟨z,e,q⟩
 ·subst e
  cases r1
  obtain⟨its,rv,p,hz⟩:=I1.list hq
  refine wpAny_pyIter_list p.isList ?_
  refine⟨s1.heap.objs.size,[s1.heap.objs.size],_,_,H1,rfl,I1.kept (t':=s1.toks) fun b o e=>Heap.get?_push_of_some _ e,Zjj a _,⟨_,Heap.get?_push_size _ rfl,rfl,rfl⟩,fun b hb=>?_,q⟩
  have e:b=s1.heap.objs.size:=by simpa using hb
  subst e
  exact I1.fpOk (Nat.le_refl _) (I1.hok.fresh (Nat.le_refl _))
 ·subst e
  cases r1
  obtain⟨its,rv,p,hz⟩:=I1.tuple hq
  refine wpAny_pyIter_tuple (show s1.heap.IsTuple a its.toArray from p) ?_
  refine⟨s1.heap.objs.size,[s1.heap.objs.size],_,_,H1,rfl,I1.kept (t':=s1.toks) fun b o e=>Heap.get?_push_of_some _ e,Zis a _,⟨_,Heap.get?_push_size _ rfl,rfl,rfl⟩,fun b hb=>?_,q⟩
  have e:b=s1.heap.objs.size:=by simpa using hb
  subst e
  exact I1.fpOk (Nat.le_refl _) (I1.hok.fresh (Nat.le_refl _))
 ·subst e
  obtain⟨t,rfl⟩:=r1
  refine wpAny_pyIter_strU ?_
  refine⟨s1.heap.objs.size,[s1.heap.objs.size],_,_,H1,rfl,I1.kept (t':=s1.toks) fun b o e=>Heap.get?_push_of_some _ e,Zkr z t _,⟨_,Heap.get?_push_size _ rfl,rfl,rfl⟩,fun b hb=>?_,q⟩
  have e:b=s1.heap.objs.size:=by simpa using hb
  subst e
  exact I1.fpOk (Nat.le_refl _) (I1.hok.fresh (Nat.le_refl _))
noncomputable def Zx0:V→List V→Hp→VK→Prop:=fun x xs H Q=>∃a b,x= .str a∧xs=[.str b]∧(b.length==0)=false∧a.length≤sizeLine∧(Txt.split a b).length≤sizeLine∧∀p,H p=none→Q (.ref p) (upd H p (.lst ((Txt.split a b).map V.str)))
noncomputable def Zzn:V→List V→Hp→VK→Prop:=fun x xs H Q=>∃a b,x= .str a∧xs=[.str b]∧(b.length==0)=false∧a.length≤sizeLine∧∀p,H p=none→Q (.ref p) (upd H p (.tup [.str (Txt.partition a b).1,.str (Txt.partition a b).2.1,.str (Txt.partition a b).2.2]))
noncomputable def rAll(K:PySem.W.Frag):List V→Hp→VK→Prop:=fun xs H Q=>∃(p:Addr) (bs:List Bool),xs=[.ref p]∧SqL K H p (bs.map V.bl)∧Q (.bl (bs.all id)) H
end
end L2
namespace DL
open PySem PySem.Spec PyProof.Rows L2
variable{K:PySem.W.Frag}
noncomputable def Zks(z:Str):List D:=z.cps.toList.map fun c=>.str ⟨#[c]⟩
theorem Zg6{z:Str}{F:Hp}:Zc9 K (Its z) F (Zks z):=fun F' H sF sH i=>by
 have hl:(Zks z).length=z.length:=by unfold Zks;rw[List.length_map];rfl
 refine⟨fun d hd=>?_,fun h=>by rw[hl]at h;exact h⟩
 have hi:i<z.length:=by
  have:=(List.getElem?_eq_some_iff.mp hd).1
  rw[hl]at this;exact this
 refine⟨hi,fun x H' zq9=>?_⟩
 obtain⟨e1,c,e2,e3⟩:=zq9
 subst e1 e3
 unfold Zks at hd
 rw[List.getElem?_map]at hd
 have e4:z.cps.toList[i]? =some c:=by simpa using e2
 rw[e4]at hd
 cases hd
 exact⟨Same.refl _,[],List.nodup_nil,fun _ h=>(nomatch h),.str _⟩
section
variable{Z:Ent K}{H:Hp}{σ:L2.St}{Q:VK}{E:Ends}
@[simp] noncomputable def anyI(fe:FE):FD:=fun δ=>(fe δ).bind fun p=>(frz p.1 p.2).bind fun q=>match q.1 with
 | .lst xs=>some (xs,q.2)
 | .tup xs=>some (xs,q.2)
 | .str z=>some (Zks z,q.2)
 |_=>none
theorem Zst{fe:FE}{R:It→Hp→Prop}(h:Zbp Z (anyI fe) σ H R):iAny K (Zb Z fe) σ H R:=by
 obtain⟨F,δ,own,ds,δ',s,e,k⟩:=h
 obtain⟨⟨rv,δ1⟩,e1,e2⟩:=Option.bind_eq_some_iff.mp e
 obtain⟨⟨d,δ2⟩,e3,e4⟩:=Option.bind_eq_some_iff.mp e2
 refine⟨F,δ,own,rv,δ1,s,e1,fun v H1 F1 own1 sH sF s1 r1=>?_⟩
 obtain⟨F2,sF2,s2,r2⟩:=s1.settleR r1
 obtain⟨F3,own3,sF3,s3,r3⟩:=s2.frzR r2 e3
 dsimp only at e4
 split at e4
 ·cases e4
  cases r3 with
  |lst h r=>exact .inl ⟨_,rfl,⟨_,Zab s3.le h⟩,k _ H1 F3 own3 sH (sF.trans (sF2.trans sF3)) s3 (Zgz h r)⟩
 ·cases e4
  cases r3 with
  |tup h r=>exact .inr (.inl ⟨_,rfl,⟨_,Zas s3.le (Zdu h)⟩,k _ H1 F3 own3 sH (sF.trans (sF2.trans sF3)) s3 (Ziz (Zdu h) r)⟩)
 ·cases e4
  cases r3 with
  |str x=>exact .inr (.inr ⟨_,rfl,k _ H1 F3 own3 sH (sF.trans (sF2.trans sF3)) s3 Zg6⟩)
 ·cases e4
@[simp] noncomputable def inS(i j:Str):Bool:=!(Builtin.Str.occurrences j i 0 j.length 1).isEmpty
@[simp] noncomputable def inD:D→D→Option SV
 | .str i,.str j=>some (.fz (.bl (inS i j)))
 |_,_=>none
@[simp] noncomputable def Zn2:D→D→Option SV
 | .str i,.str j=>some (.fz (.bl (!inS i j)))
 |_,_=>none
@[simp] noncomputable def Zx1:List D→Option SV
 | [.str a,.str b]=>if(b.length==0)=false∧a.length≤PySem.sizeLine∧(Txt.split a b).length≤PySem.sizeLine then some (.ol ((Txt.split a b).map D.str))else none
 |_=>none
@[simp] noncomputable def Zqm:List D→Option SV
 | [.str a,.str b]=>if(b.length==0)=false∧a.length≤PySem.sizeLine then some (.fz (.tup [.str (Txt.partition a b).1,.str (Txt.partition a b).2.1,.str (Txt.partition a b).2.2]))else none
 |_=>none
@[simp] noncomputable def bools?:List D→Option (List Bool)
 | []=>some []
 | .bl x::r=>(bools? r).bind fun t=>some (x::t)
 |_=>none
@[simp] noncomputable def allD:List D→Option SV
 | [.lst xs]=>(bools? xs).bind fun bs=>some (.fz (.bl (bs.all id)))
 |_=>none
@[simp] noncomputable def Zx2(i:Nat):FS:=fun δ=>match δ[i]? with
 |some (some (.ol _))=>some (.nx (δ.set i (some (.ol []))))
 |_=>none
end
section
variable{X:Cx}{Z:Ent X.K}{a b c:Expr}{fa fb fc:FE}{pos:Pos}{tg:Expr}
theorem Zfw(ha:PE X a (Zb Z fa)):PI X tg a (Zbp Z (anyI fa)):=fun pins s σ H R I h=>Zss ha pins s σ H R I (Zst h)
end
end DL
namespace L2
open PySem PySem.Spec PyProof.Rows
open AutoSeq1 (wpAny_loadPart')
section
variable{prog:Program}{w:World}{A:Around}{E:Value→Shared→Prop}{s:Shared}
theorem Zdi{it t:Addr}{i:Nat}{items:Array Value}{x:Value}{Q:Value→Shared→Prop}(hit:s.heap.IsTupleIter it t i)(ht:s.heap.IsTuple t items)(hx:items[i]? =some x)
  (hQ:∀h',h'.IsTupleIter it t (i+1)→Heap.SameBut it s.heap h'→Q x {s with heap:=h'}):wpAny (model prog w) A (Builtin.SmallTypes.nextOf (.ref it)) Q E s:=by
 obtain⟨o,ho,hc,hd⟩:=id hit;obtain⟨ol,hol,_,nl,hdl⟩:=ht;unfold Builtin.SmallTypes.nextOf
 refine wpAny_bind (wpAny_callSpecial?_slot (name:=Str.ofString "__next__") hit.typeIs F.slot_tuple_iterator_next (wpAny_call_entry F.slot_tuple_iterator_next hit.typeIs F.entry_tuple_iterator_next ?_ (F.args_tuple_iterator_next_1 _)))
 show wpAny _ _ (field (.ref it) 0 >>=_) _ _ s;refine wpAny_bind (wpAny_field ho hd (x:=.ref t) rfl ?_)
 show wpAny _ _ (if(Value.ref t==Value.none)=true then _ else _) _ _ s;rw[if_neg (show¬((Value.ref t==Value.none)=true)from Bool.false_ne_true)]
 show wpAny _ _ (field (.ref it) 1 >>=_) _ _ s;refine wpAny_bind (wpAny_field ho hd (x:=.int i 0) rfl ?_)
 show wpAny _ _ (seqItems? (.ref t) >>=_) _ _ s;refine wpAny_bind (wpAny_seqItems hol hdl ?_);simp only[Int.toNat_natCast,hx]
 refine wpAny_bind (wpAny_setField ho hd (by simp) (wpAny_pure ⟨x,rfl,wpAny_pure (hQ _ ⟨_,Heap.get?_update_self _ ho (Obj.isFreed_of_fields (Obj.data_mapFields hd _)),(Obj.cls_mapFields ..).trans hc,by rw[Obj.data_mapFields hd];simp[rawInt]⟩ (Heap.SameBut.update ..))⟩))
theorem Zbt{it t:Addr}{i:Nat}{items:Array Value}{Q:Value→Shared→Prop}(hh:A.handled=none)(hit:s.heap.IsTupleIter it t i)(ht:s.heap.IsTuple t items)(hx:items[i]? =none)
  (hE:∀h' e,Heap.ExtBut it s.heap h'→(∃o,h'.get? e=some o∧o.cls= .type "StopIteration")→E (.ref e) {s with heap:=h'}):wpAny (model prog w) A (Builtin.SmallTypes.nextOf (.ref it)) Q E s:=by
 obtain⟨o,ho,hc,hd⟩:=id hit;obtain⟨ol,hol,_,nl,hdl⟩:=ht;unfold Builtin.SmallTypes.nextOf
 refine wpAny_bind (wpAny_callSpecial?_slot (name:=Str.ofString "__next__") hit.typeIs F.slot_tuple_iterator_next (wpAny_call_entry F.slot_tuple_iterator_next hit.typeIs F.entry_tuple_iterator_next ?_ (F.args_tuple_iterator_next_1 _)))
 show wpAny _ _ (field (.ref it) 0 >>=_) _ _ s;refine wpAny_bind (wpAny_field ho hd (x:=.ref t) rfl ?_)
 show wpAny _ _ (if(Value.ref t==Value.none)=true then _ else _) _ _ s;rw[if_neg (show¬((Value.ref t==Value.none)=true)from Bool.false_ne_true)]
 show wpAny _ _ (field (.ref it) 1 >>=_) _ _ s;refine wpAny_bind (wpAny_field ho hd (x:=.int i 0) rfl ?_)
 show wpAny _ _ (seqItems? (.ref t) >>=_) _ _ s;refine wpAny_bind (wpAny_seqItems hol hdl ?_);simp only[Int.toNat_natCast,hx]
 refine wpAny_bind (wpAny_rule (wpAny_bind (wpAny_setField ho hd (by simp) ?_)));show wpAny _ _ (newExc (.type "StopIteration") [] >>=_) _ _ _
 refine wpAny_bind ?_;simp only[newExc,newTuple];refine wpAny_bind (wpAny_newObj_type ?_ (by size_fits))
 refine wpAny_bind (m:=firstArgMember _ _) (wpAny_of_eq (a:=Value.none) (by first|rfl| (simp only[firstArgMember];rfl)) ?_);refine wpAny_newObj_type ?_ (by size_fits)
 simp only[raiseNew];refine wpAny_bind (wpAny_handled ?_);first|rw[show A.in1.handled=none from hh]|rw[hh]
 refine wpAny_bind (wpAny_pure (wpAny_throw ?_));exact hE _ _ (((Heap.SameBut.update ..).extBut.push _).push _) ⟨_,Heap.get?_push_size _ rfl,rfl⟩
theorem Zg7{h h':Heap}{t it:Addr}{items:Array Value}(x:h.IsTuple t items)(hs:Heap.ExtBut it h h')(hne:t≠it):h'.IsTuple t items:=let⟨o,ho,r⟩:=x;⟨o,hs t o hne ho,r⟩
theorem Zkt{prog:Program}{w:World}{A:Around}(hh:A.handled=none)(it l:Addr)(hne:l≠it)(items:Array Value):
  Draws prog w A it [it,l] items.size (fun i v=>items[i]? =some v) (fun i h=>h.IsTupleIter it l i∧h.IsTuple l items)where
 live:=fun _ _ st=>let⟨o,ho,_⟩:=st.1;⟨o,ho⟩
 frame:=fun _ _ _ st hk=>⟨st.1.at fun o e=>hk it (by simp) o e,let⟨o,ho,r⟩:=st.2;⟨o,hk l (by simp) o ho,r⟩⟩
 item:=fun i s Q E hi st hQ=>by
  refine Zdi st.1 st.2 (x:=items[i]) (by simp[hi]) fun h' hit' hs'=>?_
  exact hQ _ h' s.toks (by simp[hi]) ⟨hit',Zg7 st.2 hs'.extBut hne⟩ hs'
 done:=fun s Q E st hE=>Zbt hh st.1 st.2 (by simp) hE
theorem Zfx(l:Addr)(items:Array Value)(n:Nat)(dct:Option Addr)(sl:Array (Option Value)):
  Meets (Builtin.«enumerate.__new__» ⟨[.type "enumerate",.ref l],[]⟩) (fun _ R s=>s.heap.get? l=some {cls:=.type "tuple",dict:=dct,data:=.seq items n,slots:=sl}∧
   R (.ok (.ret (.ref (s.heap.push {cls:=.type "tuple_iterator",data:=.fields #[.ref l,.int 0 0]}).objs.size))) {s with heap:=(s.heap.push {cls:=.type "tuple_iterator",data:=.fields #[.ref l,.int 0 0]}).push {cls:=.type "enumerate",data:=.fields #[.none,.bool false,.ref s.heap.objs.size,rawInt 0,.none,.none]}}):=
 .of_wp fun prog w A R s h=>by
  obtain⟨hp,g,d,tk,os⟩:=s;obtain⟨hl,h⟩:=h;have hsub:=sub_enumerate
  have hL:Heap.IsTuple (Shared.heap ⟨hp,g,d,tk,os⟩) l items:=⟨_,hl,rfl,n,rfl⟩
  wp_walk using wpAny_loadPart' hl
  refine wpAny_stack_any fun st=>wpAny_pure ?_;split
  ·rename_i c _ _ _ _ _
   cases(c==Value.type "enumerate")
   ·wp_walk using wpAny_loadPart' hl,wpAny_pyIter_tuple hL
    exact⟨_,rfl,h⟩
   ·wp_walk using wpAny_loadPart' hl,wpAny_pyIter_tuple hL
    exact⟨_,rfl,h⟩
  ·wp_walk using wpAny_loadPart' hl,wpAny_pyIter_tuple hL
   exact⟨_,rfl,h⟩
theorem Zem{l:Addr}{items:Array Value}{Q:Value→Shared→Prop}(hL:s.heap.IsTuple l items)
  (h:∀h',IsEnum h' (s.heap.objs.size+1) s.heap.objs.size 0 .none→h'.IsTupleIter s.heap.objs.size l 0→h'.objs.size=s.heap.objs.size+2→(∀b o,s.heap.get? b=some o→h'.get? b=some o)→Q (.ref (s.heap.objs.size+1)) {s with heap:=h'}):
  wpAny (model prog w) A (call (.type "enumerate") [.ref l]) Q E s:=by
 obtain⟨⟨c,dct,dt,sl⟩,hl,hc,n,hd⟩:=hL;replace hc:c= .type "tuple":=hc;replace hd:dt= .seq items n:=hd;subst hc hd
 refine callType_new F.called_enumerate (by decide) (F.typeCall_enumerate_1 _) (F.newCall_enumerate_1 _) (fun obj=>F.args_object_init_2 obj _) F.entry_enumerate_new (Zfx l items n dct sl) ⟨hl,?_⟩
 have hz:(s.heap.push {cls:=.type "tuple_iterator",data:=.fields #[.ref l,.int 0 0]}).objs.size=s.heap.objs.size+1:=Heap.size_push ..
 show _∧_;rw[hz]
 have he:IsEnum ((s.heap.push {cls:=.type "tuple_iterator",data:=.fields #[.ref l,.int 0 0]}).push {cls:=.type "enumerate",data:=.fields #[.none,.bool false,.ref s.heap.objs.size,rawInt 0,.none,.none]}) (s.heap.objs.size+1) s.heap.objs.size 0 .none:=by
  have:=Heap.get?_push_size (s.heap.push {cls:=.type "tuple_iterator",data:=.fields #[.ref l,.int 0 0]}) (o:={cls:=.type "enumerate",data:=.fields #[.none,.bool false,.ref s.heap.objs.size,rawInt 0,.none,.none]}) rfl
  rw[hz]at this;exact this
 exact⟨⟨_,he,rfl⟩,h _ he ⟨_,Heap.get?_push_of_some _ (Heap.get?_push_size _ rfl),rfl,rfl⟩ (by rw[Heap.size_push,hz]) fun b o x=>Heap.get?_push_of_some _ (Heap.get?_push_of_some _ x)⟩
theorem Zfy{e it l:Addr}{i:Nat}{items:Array Value}{old:Value}{Q:Option Value→Shared→Prop}(hh:A.handled=none)(he:IsEnum s.heap e it i old)(hit:s.heap.IsTupleIter it l i)(hl:s.heap.IsTuple l items)(hx:items[i]? =none)
  (hQ:∀h',Heap.ExtBut it s.heap h'→Q none {s with heap:=h'}):wpAny (model prog w) A (pyNext (.ref e)) Q E s:=by
 have hT:s.TypeIs (.ref e) "enumerate":=⟨_,he,rfl⟩;unfold pyNext
 refine wpAny_bind (wpAny_attempt (wpAny_callSpecial?_slot (name:=Str.ofString "__next__") hT F.slot_enumerate_next (wpAny_call_entry F.slot_enumerate_next hT F.entry_enumerate_next ?_ (F.args_enumerate_next_1 _))))
 show wpAny _ _ (field (.ref e) 2 >>=_) _ _ _;refine wpAny_bind (wpAny_field he rfl (x:=.ref it) rfl ?_)
 refine wpAny_bind (Zbt (by first|exact hh| (rw[show A.in1.handled=A.handled from rfl];exact hh)) hit hl hx fun h' x he' hx'=>?_);obtain⟨o,ho,hc⟩:=hx'
 refine wpAny_bind (wpAny_isInstance (T:="StopIteration") (b:=true) ⟨o,ho,hc⟩ isSubtype_stop ?_);exact wpAny_pure (hQ _ he')
end
section
variable{X:Cx}{tg:Expr}
noncomputable def IteT(K:PySem.W.Frag)(a:Addr):It:=
 ⟨fun i H=>∃xs x,SqT K H a xs∧xs[i]? =some x,fun i H x H'=>∃p v,x= .ref p∧H p=none∧H'=upd H p (.tup [.int (i:Nat),v])∧∀xs,SqT K H a xs→xs[i]? =some v,fun i H=>∃xs,SqT K H a xs∧xs.length≤i⟩
theorem Zi3{P:Program}{w:World}{K:PySem.W.Frag}{elts:List Expr}{kk:Nat}{tpos:Pos}(a e it:Addr)(hei:e≠it):Turn P w K (.Tuple elts kk tpos) (IteT K a) [e,it] e (fun i h=>(∃old,IsEnum h e it ((i:Nat):Int) old)∧h.IsTupleIter it a i)where
 mem:=by simp
 obj:=fun i h st b hb=>by
  have hb':b=e∨b=it:=by simpa using hb
  rcases hb' with z|z
  ·subst z
   obtain⟨old,q⟩:=st.1
   exact⟨_,q,fun v y=>by
    have y':Data.fields _=Data.cell v:=y
    cases y'⟩
  ·subst z
   obtain⟨o,q,c,d⟩:=st.2
   exact⟨o,q,fun v y=>by rw[d]at y;cases y⟩
 keep:=fun i h h' st k=>⟨let⟨old,q⟩:=st.1;⟨old,k e (by simp) _ q⟩,st.2.at fun o q=>k it (by simp) o q⟩
 item:=by
  intro X hP hw hK hc i pins s σ H E I hf st hg
  subst hP hw hK
  obtain⟨xs,x,hq,hx⟩:=hg
  obtain⟨its,rv,p,hz⟩:=I.tuple hq
  obtain⟨u,hu,ru⟩:=rv.get hx
  obtain⟨⟨old,he⟩,hit⟩:=st
  have hl:s.heap.IsTuple a its.toArray:=p
  have ai:a≠it:=fun z=>by
   obtain⟨o1,q1,c1,_⟩:=hit
   obtain⟨o2,q2,c2,_⟩:=hl
   rw[z,q1]at q2;cases q2
   rw[c1]at c2;exact absurd c2 (by decide)
  have ae:e∉[it,a]:=fun z=>by
   have z':e=it∨e=a:=by simpa using z
   rcases z' with z|z
   ·exact hei z
   ·obtain⟨o2,q2,c2,_⟩:=hl
    rw[←z,he]at q2;cases q2;exact absurd (show Value.type "enumerate"=Value.type "tuple"from c2) (by decide)
  have D:=Zkt (prog:=X.prog) (w:=X.w) (A:=X.A.in1) (by first|exact I.ok.hd hc| (rw[show X.A.in1.handled=X.A.handled from rfl];exact I.ok.hd hc)) it a ai its.toArray
  have hlt:i<its.toArray.size:=by
   have:=(List.getElem?_eq_some_iff.mp hu).1
   rw[List.size_toArray];exact this
  refine wpAny_pyNext_enum_itemD D he ⟨hit,hl⟩ hlt hei ae fun y h' tk hy hout st' hT hsz hk=>⟨.ref s.heap.objs.size,rfl,?_⟩
  refine wpAny_letOwnedTupleGo_enum hout fun h2 he2 hs2=>?_
  have hy':its.toArray[i]? =some y:=hy
  have ey:y=u:=by
   have:its[i]? =some y:=by simpa using hy'
   rw[hu]at this;cases this;rfl
  subst ey
  have kk:∀b o,b≠e→b≠it→s.heap.get? b=some o→h2.get? b=some o:=fun b o h1 h3 q=>(hs2.2 b h1).trans (hk b o h1 h3 q)
  have neT:s.heap.objs.size≠e:=Nat.ne_of_gt (Heap.lt_size he)
  have I2:=I.turnedT (h':=h2) (t':=tk+1) (e:=e) (it:=it) (T:=s.heap.objs.size) (xs:=[.int (i:Nat),x]) (its:=[.int i tk,y]) kk (hf e (by simp)) (hf it (by simp)) rfl ⟨_,(hs2.2 _ neT).trans hT,rfl,_,rfl⟩ (.cons ⟨tk,rfl⟩ (.cons ru .nil)) (by show 2≤sizeLine;decide)
   ⟨_,he2⟩ (let⟨o,q,_⟩:=st'.1;⟨o,(hs2.2 it (Ne.symm hei)).trans q⟩)
  refine⟨.ref s.heap.objs.size,_,I2,rfl,⟨s.heap.objs.size,x,rfl,I.hok.fresh (Nat.le_refl _),rfl,fun ys hy2=>by rw[I.tuple_inj hy2 hq];exact hx⟩,⟨⟨_,he2⟩,st'.1.at fun o q=>(hs2.2 it (Ne.symm hei)).trans q⟩,fun b hb=>?_⟩
  rw[Zl fun z=>?_]
  ·exact(hf b hb).1
  ·have hb':b=e∨b=it:=by simpa using hb
   rcases hb' with y|y
   ·rw[←z,y]at neT;exact neT rfl
   ·obtain⟨o,q,_⟩:=hit
    rw[y]at z
    exact absurd (Heap.lt_size q) (by rw[z];exact Nat.lt_irrefl _)
 done:=by
  intro X hP hw hK hc i pins s σ H E I hf st hg
  subst hP hw hK
  obtain⟨xs,hq,hx⟩:=hg
  obtain⟨its,rv,p,hz⟩:=I.tuple hq
  obtain⟨⟨old,he⟩,hit⟩:=st
  obtain⟨f0,f1,f2,f3,f4,f5⟩:=hf it (by simp)
  have hl:=rv.length
  exact Zfy (I.ok.hd hc) he hit (show s.heap.IsTuple a its.toArray from p) (by simp;omega) fun h' eb=>⟨rfl,I.turned (t':=s.toks) (fun b o hb q=>eb b o hb q) f0 f1 f3 f4 f5⟩
 self:=fun _ _ _ _ _ st h=>let⟨⟨old,he⟩,_⟩:=st;wpAny_pyIter_enum he h
noncomputable def Zn3(K:PySem.W.Frag)(ta:TA):TI:=fun σ H R=>ta σ H fun vs H1=>∃a xs,vs=[.ref a]∧SqT K H1 a xs∧R (IteT K a) H1
theorem Zmx{l:Expr}{elts:List Expr}{kk:Nat}{tpos p pos:Pos}{ta:TA}(hg:Gl X "enumerate")(hm:X.mg "enumerate"=none)(ha:PA X [l] ta)(hs:starEach [l] X.env=[(false,eval l X.env)]:=by rfl):
  PI X (.Tuple elts kk tpos) (.Call (.Name "enumerate" p) [l] [] pos) (Zn3 X.K ta):=by
 intro pins s σ H R I h
 refine Call_ (Zc5 I hg hm boot_enumerate (PyProof.Rows.callWith_type1 (thn (ha pos pins s σ H _ I h) fun us s1 ⟨vs,H1,I1,r1,q1⟩=>?_) hs rfl))
 obtain⟨a,xs,e,hq,q⟩:=q1
 subst e
 obtain⟨u,rfl,ru⟩:=Zdt r1
 cases ru
 obtain⟨its,rv,p,hz⟩:=I1.tuple hq
 refine Zem (show s1.heap.IsTuple a its.toArray from p) fun h' he hit hsz hk=>wpAny_pyIter_enum he ?_
 have I2:Inv X pins σ H1 {s1 with heap:=h'}:=I1.kept (t':=s1.toks) hk
 refine⟨s1.heap.objs.size+1,[s1.heap.objs.size+1,s1.heap.objs.size],_,_,H1,rfl,I2,Zi3 a _ _ (Nat.succ_ne_self _),⟨⟨.none,by simpa using he⟩,hit⟩,fun b hb=>?_,q⟩
 have hb':b=s1.heap.objs.size+1∨b=s1.heap.objs.size:=by simpa using hb
 rcases hb' with z|z
 ·subst z;exact I1.fpOk (Nat.le_succ _) (I1.hok.fresh (Nat.le_succ _))
 ·subst z;exact I1.fpOk (Nat.le_refl _) (I1.hok.fresh (Nat.le_refl _))
end
end L2
namespace DL
open PySem PySem.Spec PyProof.Rows L2
variable{K:PySem.W.Frag}
theorem Zfz{F:Hp}{a:Addr}{xs:List D}{vs:List V}(h:SqT K F a vs)(r:Reps K F xs vs):Zc9 K (IteT K a) F (Zdd xs):=fun F' H sF sH i=>by
 have q:SqT K H a vs:=Zas (sF.trans sH) h
 refine⟨fun d hd=>?_,fun hl=>⟨vs,q,by rw[←r.length,←Zfr];exact hl⟩⟩
 obtain⟨x,hx,rfl⟩:=Zfq hd
 obtain⟨v,h1,h2⟩:=r.get hx
 refine⟨⟨vs,v,q,h1⟩,fun y H' zq9=>?_⟩
 obtain⟨p,w,e1,e2,e3,e4⟩:=zq9
 subst e1 e3
 have e5:=e4 vs q
 rw[h1]at e5;cases e5
 have hp:F' p=none:=sH.free e2
 have sm:Same F' (addL F' [(p,.tup [.int (i:Nat),v])]):=Zat fun z hz=>by obtain rfl:=List.mem_singleton.mp hz;exact hp
 refine⟨Zbo e2,[(p,.tup [.int (i:Nat),v])],nd1,fun z hz=>?_,.tup Zv (.cons (.int _) (.cons (h2.mono (sF.trans sm)) .nil))⟩
 obtain rfl:=List.mem_singleton.mp hz
 exact⟨e2,Zv⟩
section
variable{Z:Ent K}{H:Hp}{σ:L2.St}{Q:VK}
@[simp] noncomputable def Zn4(fd:FD):FD:=fun δ=>(fd δ).bind fun p=>match p.1 with
 | [.tup xs]=>some (Zdd xs,p.2)
 |_=>none
theorem Zmy{fd:FD}{R:It→Hp→Prop}(h:Zbp Z (Zn4 fd) σ H R):Zn3 K (Za6 Z fd) σ H R:=by
 obtain⟨F,δ,own,ds,δ',s,e,k⟩:=h
 obtain⟨⟨ds1,δ1⟩,e1,e2⟩:=Option.bind_eq_some_iff.mp e
 refine⟨F,δ,own,ds1,δ1,s,e1,fun vs H1 F1 own1 sH sF s1 r1=>?_⟩
 dsimp only at e2
 split at e2
 ·rename_i xs
  cases e2
  cases r1 with
  |cons h t=>
   cases t
   cases h with
   |tup h r=>exact⟨_,_,rfl,Zas s1.le (Zdu h),k _ H1 F1 own1 sH sF s1 (Zfz (Zdu h) r)⟩
 ·cases e2
end
section
variable{X:Cx}{Z:Ent X.K}{a:Expr}{fa:FE}{pos:Pos}
@[simp] noncomputable def Zf0(fd:FD):FD:=fun δ=>(fd δ).bind fun p=>match p.1 with
 | [.lst xs]=>some (Zdd xs,p.2)
 | [.tup xs]=>some (Zdd xs,p.2)
 |_=>none
theorem Zmz{H:Hp}{σ:L2.St}{fd:FD}{R:It→Hp→Prop}(h:Zbp Z (Zf0 fd) σ H R):Zbp Z (Zsk fd) σ H R∨Zbp Z (Zn4 fd) σ H R:=by
 obtain⟨F,δ,own,ds,δ',s,e,k⟩:=h
 obtain⟨⟨ds1,δ1⟩,e1,e2⟩:=Option.bind_eq_some_iff.mp e
 dsimp only at e2
 split at e2
 ·rename_i xs
  exact .inl ⟨F,δ,own,ds,δ',s,Option.bind_eq_some_iff.mpr ⟨_,e1,e2⟩,k⟩
 ·rename_i xs
  exact .inr ⟨F,δ,own,ds,δ',s,Option.bind_eq_some_iff.mpr ⟨_,e1,e2⟩,k⟩
 ·cases e2
theorem Zg8{elts:List Expr}{kk:Nat}{tpos p:Pos}{fd:FD}(hm:X.mg "enumerate"=none)(ha:PA X [a] (Za6 Z fd))(hg:Gl X "enumerate":=by rfl)(hs:starEach [a] X.env=[(false,eval a X.env)]:=by rfl):
  PI X (.Tuple elts kk tpos) (.Call (.Name "enumerate" p) [a] [] pos) (Zbp Z (Zf0 fd)):=fun pins s σ H R I h=>by
 rcases Zmz h with h|h
 ·exact Zpi hg hm ha hs pins s σ H R I (Zpj h)
 ·exact Zmx hg hm ha hs pins s σ H R I (Zmy h)
end
end DL
namespace L2
open PySem PySem.Spec PyProof.Rows
variable{X:Cx}
noncomputable def Zx3(K:PySem.W.Frag):V→List V→Hp→VK→Prop:=fun x xs H Q=>∃sep p ys,x= .str sep∧xs=[.ref p]∧(SqL K H p (ys.map V.str)∨SqT K H p (ys.map V.str))∧JoinOk sep ys=true∧Q (.str (Txt.join sep ys)) H
end L2
namespace DL
open PySem PySem.Spec PyProof.Rows L2
variable{K:PySem.W.Frag}
@[simp] noncomputable def Zx4:List D→Option SV
 | [.str sep,.lst xs]=>(strs? xs).bind fun ys=>if JoinOk sep ys=true then some (.fz (.str (Txt.join sep ys)))else none
 | [.str sep,.tup xs]=>(strs? xs).bind fun ys=>if JoinOk sep ys=true then some (.fz (.str (Txt.join sep ys)))else none
 |_=>none
section
variable{X:Cx}{Z:Ent X.K}{a b:Expr}{fa fb:FE}
end
end DL
namespace L2
open PySem PySem.Spec PyProof.Rows
variable{X:Cx}
noncomputable def Zv1:R2:=fun x y H Q=>∃a v,x= .ref a∧DGet H a y (some v)∧Q v H
noncomputable def rDIn:R2:=fun y x H Q=>∃a o,x= .ref a∧DGet H a y o∧Q (.bl o.isSome) H
noncomputable def Zv2:R2:=fun y x H Q=>∃a o,x= .ref a∧DGet H a y o∧Q (.bl (!o.isSome)) H
end L2
namespace DL
open PySem PySem.Spec PyProof.Rows L2
variable{K:PySem.W.Frag}
@[simp] noncomputable def D.key?:D→Option Key
 | .int i=>some (.inl i)
 | .str x=>some (.inr x)
 |_=>none
@[simp] noncomputable def keys?:List D→Option (List Key)
 | []=>some []
 |d::r=>d.key?.bind fun k=>(keys? r).bind fun t=>some (k::t)
section
variable{κ:Type}[DecidableEq κ]
@[simp] noncomputable def look(ks:List κ)(vs:List D)(k:κ):Option D:=match ks,vs with
 |a::ks,v::vs=>if a=k then some v else look ks vs k
 |_,_=>none
theorem Zg9{F:Hp}(k:κ):∀(kvs:List (κ×V)) (ds:List D),Reps K F ds (kvs.map (·.2))→match look (kvs.map (·.1)) ds k with
  |some d=>∃v,valV kvs k=some v∧Rep K F d v
  |none=>valV kvs k=none
 | [],_,r=>by cases r;exact Zmh
 |p::kvs,_,r=>by
  cases r with
  | @cons d v ds vs h t=>
   show match(if p.1=k then some d else look (kvs.map (·.1)) ds k)with
    |some d=>∃v,valV (p::kvs) k=some v∧Rep K F d v
    |none=>valV (p::kvs) k=none
   by_cases e:p.1=k
   ·rw[if_pos e]
    exact⟨p.2,Zcz e,h⟩
   ·rw[if_neg e,Zc0 e]
    exact Zg9 k kvs ds t
@[simp] noncomputable def putA(ks:List κ)(vs:List D)(k:κ)(v:D):List κ×List D:=
 if k∈ks then(ks,(ks.zip vs).map fun p=>if p.1=k then v else p.2)else(ks++[k],vs++[v])
theorem Reps.length_map{F:Hp}{α:Type}{ds:List D}{kvs:List (α×V)}(r:Reps K F ds (kvs.map (·.2))):ds.length=kvs.length:=by rw[r.length,List.length_map]
theorem Zku{F:Hp}{k:κ}{d:D}{v:V}(hd:Rep K F d v):∀(kvs:List (κ×V)) (ds:List D),Reps K F ds (kvs.map (·.2))→
  Reps K F (((kvs.map (·.1)).zip ds).map fun p=>if p.1=k then d else p.2) ((kvs.map fun kv=>if kv.1=k then(kv.1,v)else kv).map (·.2))
 | [],_,r=>by cases r;exact .nil
 |p::kvs,_,r=>by
  cases r with
  | @cons d' v' ds vs h t=>
   have ih:=Zku (k:=k) hd kvs ds t
   show Reps K F ((if p.1=k then d else d')::(((kvs.map (·.1)).zip ds).map fun p=>if p.1=k then d else p.2)) ((if p.1=k then(p.1,v)else p).2::((kvs.map fun kv=>if kv.1=k then(kv.1,v)else kv).map (·.2)))
   refine .cons ?_ ih
   by_cases e:p.1=k
   ·rw[if_pos e,if_pos e];exact hd
   ·rw[if_neg e,if_neg e];exact h
theorem Zm0{k:κ}{v:V}(kvs:List (κ×V)):(kvs.map fun kv=>if kv.1=k then(kv.1,v)else kv).map (·.1)=kvs.map (·.1):=by
 rw[List.map_map]
 refine List.map_congr_left fun p _=>?_
 show(if p.1=k then(p.1,v)else p).1=p.1
 split<;> rfl
theorem Zkv(k:κ)(kvs:List (κ×V)):(kvs.any fun kv=>decide (kv.1=k))=true↔k∈kvs.map (·.1):=by
 rw[List.any_eq_true,List.mem_map]
 constructor
 ·rintro⟨p,h1,h2⟩;exact⟨p,h1,of_decide_eq_true h2⟩
 ·rintro⟨p,h1,h2⟩;exact⟨p,h1,decide_eq_true h2⟩
theorem Zkw{F:Hp}{k:κ}{d:D}{v:V}(hd:Rep K F d v)(kvs:List (κ×V))(ds:List D)(r:Reps K F ds (kvs.map (·.2))):
  (putK kvs k v).map (·.1)=(putA (kvs.map (·.1)) ds k d).1∧Reps K F (putA (kvs.map (·.1)) ds k d).2 ((putK kvs k v).map (·.2)):=by
 unfold putK putA
 by_cases h:k∈kvs.map (·.1)
 ·rw[if_pos h,if_pos ((Zkv k kvs).mpr h)]
  exact⟨Zm0 kvs,Zku hd kvs ds r⟩
 ·rw[if_neg h,if_neg fun z=>h ((Zkv k kvs).mp z),List.map_append,List.map_append]
  exact⟨rfl,r.snoc hd⟩
end
theorem Zh5{F H:Hp}{d:D}{k:Key}{y:V}(e:d.key? =some k)(r:RepN K F H d y):y=kV k:=by
 cases d with
 |int i=>cases e;exact r.int
 |str x=>cases e;exact r.str
 |_=>cases e
theorem Zpr{F:Hp}{d:D}{k:Key}{y:V}(e:d.key? =some k)(r:Rep K F d y):y=kV k:=Zh5 (H:=F) e (RepN.of r)
theorem Zha{F:Hp}:∀{ds:List D} {ks:List Key} {vs:List V},keys? ds=some ks→Reps K F ds vs→vs=ks.map kV
 | [],_,_,e,r=>by cases e;cases r;rfl
 |d::ds,_,_,e,r=>by
  cases r with
  |cons h t=>
   obtain⟨k,e1,e2⟩:=Option.bind_eq_some_iff.mp e
   obtain⟨t',e3,e4⟩:=Option.bind_eq_some_iff.mp e2
   cases e4
   rw[Zpr e1 h,Zha e3 t];rfl
theorem RepN.tupH{F H:Hp}{xs:List D}{v:V}(le:Same F H)(h:RepN K F H (.tup xs) v):∃a vs,v= .ref a∧H a=some (.tup vs)∧Reps K F xs vs:=by
 obtain⟨sv,ns,e,n,sh,hp⟩:=h
 cases sh with
 |fz r=>cases e;cases r with|tup h r=>exact⟨_,_,rfl,le _ _ h,r⟩
 |ol r=>cases e
 |oK e' r=>cases e
 |oT kb e' r=>cases e
 |oN e' r=>cases n
 |oL _ r=>cases n
 |oQ e' r=>cases e
@[simp] noncomputable def getO:D→D→Option (Option D)
 | .dK ks vs,d=>d.key?.bind fun k=>some (look ks vs k)
 | .dT ks vs,.tup xs=>(keys? xs).bind fun k=>some (look ks vs k)
 |_,_=>none
theorem Zkx{F H:Hp}{d1 d2:D}{x y:V}{o:Option D}(le:Same F H)(e:getO d1 d2=some o)(r1:RepN K F H d1 x)(r2:RepN K F H d2 y):
  ∃a,x= .ref a∧IsD H a∧match o with
   |some d=>∃v,DGet H a y (some v)∧Rep K F d v
   |none=>DGet H a y none:=by
 unfold getO at e
 split at e
 ·obtain⟨k,e1,e2⟩:=Option.bind_eq_some_iff.mp e
  obtain⟨a,kvs,rfl,ha,rfl,rr⟩:=r1.dK le
  refine⟨a,rfl,.inl ⟨kvs,ha.rd⟩,?_⟩
  rw[Zh5 e1 r2]
  have z:=Zg9 k kvs _ rr
  have g:=DGet.k (k:=k) ha
  rw[Option.some.inj e2]at z
  cases o with
  |none=>rw[show valV kvs k=none from z]at g;exact g
  |some d=>obtain⟨v,z1,z2⟩:=z;rw[z1]at g;exact⟨v,g,z2⟩
 ·obtain⟨k,e1,e2⟩:=Option.bind_eq_some_iff.mp e
  obtain⟨a,kvs,rfl,ha,rfl,rr⟩:=r1.dT le
  obtain⟨b,vs,rfl,hb,rb⟩:=r2.tupH le
  refine⟨a,rfl,.inr ⟨kvs,ha.rd⟩,?_⟩
  rw[Zha e1 rb]at hb
  have z:=Zg9 k kvs _ rr
  have g:=DGet.t ha hb
  rw[Option.some.inj e2]at z
  cases o with
  |none=>rw[show valV kvs k=none from z]at g;exact g
  |some d=>obtain⟨v,z1,z2⟩:=z;rw[z1]at g;exact⟨v,g,z2⟩
 ·cases e
section
variable{Z:Ent K}
@[simp] noncomputable def Zps(d1 d2:D):Option SV:=(getO d1 d2).bind fun o=>o.bind fun d=>some (.fz d)
theorem Zsu:Za0 Z Zv1 Zps:=by
 intro F H σ δ own x y d1 d2 sv Q s r1 r2 e k
 obtain⟨o,e1,e2⟩:=Option.bind_eq_some_iff.mp e
 obtain⟨d,e3,e4⟩:=Option.bind_eq_some_iff.mp e2
 cases e4
 subst e3
 obtain⟨a,rfl,_,v,g,rv⟩:=Zkx s.le e1 r1 r2
 exact⟨a,v,rfl,g,k.fz s rv⟩
@[simp] noncomputable def inDd(d1 d2:D):Option SV:=(getO d2 d1).bind fun o=>some (.fz (.bl o.isSome))
@[simp] noncomputable def Zpt(d1 d2:D):Option SV:=(getO d2 d1).bind fun o=>some (.fz (.bl (!o.isSome)))
@[simp] noncomputable def D.isD:D→Bool
 | .dK _ _=>true| .dT _ _=>true|_=>false
@[simp] noncomputable def ixX(d1 d2:D):Option SV:=if d1.isD=true then Zps d1 d2 else ixD d1 d2
@[simp] noncomputable def inX(d1 d2:D):Option SV:=if d2.isD=true then inDd d1 d2 else inD d1 d2
@[simp] noncomputable def Zsv(d1 d2:D):Option SV:=if d2.isD=true then Zpt d1 d2 else Zn2 d1 d2
theorem Zky{H:Hp}{σ:L2.St}{Q:VK}{fa fb:FE}{g g1 g2':D→D→Option SV}(hg:∀d1 d2 sv,g d1 d2=some sv→g1 d1 d2=some sv∨g2' d1 d2=some sv)(h:Zb Z (binF g fa fb) σ H Q):Zb Z (binF g1 fa fb) σ H Q∨Zb Z (binF g2' fa fb) σ H Q:=by
 obtain⟨F,δ,own,rv,δ',s,e,k⟩:=h
 obtain⟨⟨rvs,δ1⟩,e1,e2⟩:=Option.bind_eq_some_iff.mp e
 obtain⟨ds,e3,e4⟩:=Option.bind_eq_some_iff.mp e2
 obtain⟨sv,e5,e6⟩:=Option.bind_eq_some_iff.mp e4
 have:(g2 g1) ds=some sv∨(g2 g2') ds=some sv:=by
  unfold g2 at e5⊢
  split at e5
  ·exact hg _ _ _ e5
  ·cases e5
 rcases this with z|z
 ·exact .inl ⟨F,δ,own,rv,δ',s,Option.bind_eq_some_iff.mpr ⟨_,e1,Option.bind_eq_some_iff.mpr ⟨_,e3,Option.bind_eq_some_iff.mpr ⟨_,z,e6⟩⟩⟩,k⟩
 ·exact .inr ⟨F,δ,own,rv,δ',s,Option.bind_eq_some_iff.mpr ⟨_,e1,Option.bind_eq_some_iff.mpr ⟨_,e3,Option.bind_eq_some_iff.mpr ⟨_,z,e6⟩⟩⟩,k⟩
end
section
variable{X:Cx}{Z:Ent X.K}{a b c:Expr}{fa fb fc:FE}{pos:Pos}
theorem Zbr(hu:X.A.units+1<cLine)(ha:PE X a (Zb Z fa))(hb:PE X b (Zb Z fb))(hs:Zjx b:=by intro _ _;rfl):PE X (.Subscript a b pos) (Zb Z (binF ixX fa fb)):=fun pins s σ H Q I h=>by
 rcases Zky (g1:=Zps) (g2':=ixD) (fun d1 d2 sv e=>by
  unfold ixX at e
  split at e
  ·exact .inl e
  ·exact .inr e) h with h|h
 ·exact Zo3 hu ha hb hs pins s σ H Q I (Zkb Zsu h)
 ·exact Zu3 Zrp ha hb hs pins s σ H Q I (Zkb p_ix h)
end
end DL
namespace L2
open PySem PySem.Spec PyProof.Rows
variable{X:Cx}
noncomputable def Zn5:V→List V→Hp→VK→Prop:=fun x xs H Q=>∃a,x= .ref a∧((∃y o,xs=[y]∧DGet H a y o∧Q (o.getD .non) H)∨(∃y z o,xs=[y,z]∧DGet H a y o∧Q (o.getD z) H))
theorem Zpu(hu:X.A.units+1<cLine):MtR X "dict.get" Zn5:=by
 intro pins s σ H x xs v us Q I rx rs h
 obtain⟨a,rfl,h⟩:=h
 cases rx
 rcases h with⟨y,o,rfl,g,q⟩|⟨y,z,o,rfl,g,q⟩
 ·obtain⟨u,rfl,ru⟩:=Zdt rs
  exact Zrx hu I g ru fun w' s' I' r'=>⟨_,H,I',r',q⟩
 ·obtain⟨u,w',rfl,r1,r2⟩:=Zrh rs
  exact Zry hu I g r1 r2 fun w' s' I' r'=>⟨_,H,I',r',q⟩
end L2
namespace DL
open PySem PySem.Spec PyProof.Rows L2
variable{K:PySem.W.Frag}
section
variable{Z:Ent K}{H:Hp}{σ:L2.St}{Q:VK}{E:Ends}
@[simp] noncomputable def Zzo:FE:=fun δ=>some (.tmp (.oK [] []),δ)
@[simp] noncomputable def Zm1:FE:=fun δ=>some (.tmp (.oT [] []),δ)
theorem Zpv(h:Zb Z Zm1 σ H Q):Znt σ H Q:=by
 obtain⟨F,δ,own,rv,δ',s,e,k⟩:=h
 cases e
 intro p hp
 have f:Fin Z F H σ δ own (.oT [] []) Q:=fun v H' F' ns a b c t=>k v H' F' own a b c ⟨ns,t⟩
 exact f.one s (.oT (kvs:=[]) .nil rfl .nil) hp
@[simp] noncomputable def SV.isOD:Option (Option SV)→Bool
 |some (some (.oK _ _))=>true
 |some (some (.oT _ _))=>true
 |some (some (.oQ _ _ _))=>true
 |_=>false
@[simp] noncomputable def putS(kd d:D):Option (Option SV)→Option SV
 |some (some (.oK ks vs))=>kd.key?.bind fun k=>if vs.length<PySem.sizeLine then some (.oK (putA ks vs k d).1 (putA ks vs k d).2)else none
 |some (some (.oT ks vs))=>match kd with
  | .tup xs=>(keys? xs).bind fun k=>if vs.length<PySem.sizeLine then some (.oT (putA ks vs k d).1 (putA ks vs k d).2)else none
  |_=>none
 |some (some (.oQ q ks vs))=>kd.key?.bind fun k=>if vs.length<PySem.sizeLine then some (.oQ q (putA ks vs k d).1 (putA ks vs k d).2)else none
 |_=>none
@[simp] noncomputable def putF(i:Nat)(fk fv:FE):FS:=fun δ=>(fv δ).bind fun p=>(frz p.1 p.2).bind fun q=>if SV.isOD (q.2[i]?)=true then(fk q.2).bind fun r=>(rdv r.1 r.2).bind fun kd=>(putS kd q.1 (r.2[i]?)).bind fun sv=>some (.nx (r.2.set i (some sv)))else none
theorem Zm2{F:Hp}{ks:List Key}{ds:List D}{v:V}{ns:Zo}(h:Shape K F (.oK ks ds) v ns):∃a kvs ep,v= .ref a∧ns=[(a,.dK kvs ep)]∧kvs.map (·.1)=ks∧Reps K F ds (kvs.map (·.2)):=by
 cases h with
 |oK e r=>exact⟨_,_,_,rfl,rfl,e,r⟩
theorem Zm3{F:Hp}{q:Addr}{ks:List Key}{ds:List D}{v:V}{ns:Zo}(h:Shape K F (.oQ q ks ds) v ns):∃kvs ep,v= .ref q∧ns=[(q,.dK kvs ep)]∧kvs.map (·.1)=ks∧Reps K F ds (kvs.map (·.2)):=by
 cases h with
 |oQ e r=>exact⟨_,_,rfl,rfl,e,r⟩
theorem Zm4{F:Hp}{ks:List (List Key)}{ds:List D}{v:V}{ns:Zo}(h:Shape K F (.oT ks ds) v ns):∃a kvs ep bs,v= .ref a∧ns=[(a,.dT kvs ep bs)]∧KB F kvs bs∧kvs.map (·.1)=ks∧Reps K F ds (kvs.map (·.2)):=by
 cases h with
 |oT kb e r=>exact⟨_,_,_,_,rfl,rfl,kb,e,r⟩
theorem KB.put{F:Hp}{kvs:List (List Key×V)}{bs:List Addr}{k:List Key}{b:Addr}{v:V}(h:KB F kvs bs)(hb:F b=some (.tup (k.map kV))):KB F (putK kvs k v) (putB kvs bs k b):=by
 unfold putK putB
 split
 ·unfold KB at*
  clear hb
  rename_i hq
  clear hq
  induction h with
  |nil=>exact .nil
  | @cons p c ps cs h1 t ih=>
   rw[List.map_cons]
   refine .cons ?_ ih
   by_cases e:p.1=k
   ·rw[if_pos e];exact h1
   ·rw[if_neg e];exact h1
 ·exact Paired.snoc h hb
theorem RepN.tupF{F H:Hp}{xs:List D}{v:V}(h:RepN K F H (.tup xs) v):∃a vs,v= .ref a∧F a=some (.tup vs)∧Reps K F xs vs:=by
 obtain⟨sv,ns,e,n,sh,hp⟩:=h
 cases sh with
 |fz r=>cases e;cases r with|tup h r=>exact⟨_,_,rfl,h,r⟩
 |ol r=>cases e
 |oK e' r=>cases e
 |oT kb e' r=>cases e
 |oN e' r=>cases n
 |oL _ r=>cases n
 |oQ e' r=>cases e
theorem Zpw{o:Option (Option SV)}(h:SV.isOD o=true):∃sv,o=some (some sv):=by
 unfold SV.isOD at h
 split at h
 ·exact⟨_,rfl⟩
 ·exact⟨_,rfl⟩
 ·exact⟨_,rfl⟩
 ·cases h
theorem Zv3{i:Nat}{fk fv:FE}(h:Z0 Z (putF i fk fv) E σ H):Zrw (tVar i) (Zb Z fk) (Zb Z fv) E σ H:=by
 obtain⟨F,δ,own,fl,s,e,k⟩:=h
 obtain⟨⟨rv,δ1⟩,e1,e⟩:=Option.bind_eq_some_iff.mp e
 obtain⟨⟨d,δ2⟩,e2,e⟩:=Option.bind_eq_some_iff.mp e
 dsimp only at e
 split at e
 ·rename_i hod
  obtain⟨⟨rk,δ3⟩,e3,e⟩:=Option.bind_eq_some_iff.mp e
  obtain⟨kd,e4,e⟩:=Option.bind_eq_some_iff.mp e
  obtain⟨sv,e5,e⟩:=Option.bind_eq_some_iff.mp e
  cases e
  refine⟨F,δ,own,rv,δ1,s,e1,fun v H1 F1 own1 sH1 sF1 s1 r1=>?_⟩
  obtain⟨F2,sF2,s2,r2⟩:=s1.settleR r1
  obtain⟨F3,own3,sF3,s3,r3⟩:=s2.frzR r2 e2
  obtain⟨sv0,hsv0⟩:=Zpw hod
  obtain⟨x,hx,_⟩:=s3.at' i sv0 hsv0
  refine⟨x,hx,F3,δ2,own3,rk,δ3,s3,e3,fun y H4 F4 own4 sH4 sF4 s4 r4=>?_⟩
  obtain⟨F5,sF5,s5,r5⟩:=s4.settleR r4
  have rk':=s5.rd r5 e4
  have rd:Rep K F5 d v:=r3.mono (sF4.trans sF5)
  have sF:Same F F5:=sF1.trans (sF2.trans (sF3.trans (sF4.trans sF5)))
  dsimp only at e5
  generalize ho:δ3[i]? =o at e5
  unfold putS at e5
  split at e5
  ·rename_i ks vs
   obtain⟨kk,f1,f2⟩:=Option.bind_eq_some_iff.mp e5
   split at f2
   ·rename_i hz
    cases f2
    obtain⟨x',hx',sh⟩:=s5.at' i _ ho
    rw[hx]at hx';cases hx'
    obtain⟨a,kvs,ep0,ea,en,rfl,rr⟩:=Zm2 sh
    subst ea
    have mb:(a,HO.dK kvs ep0)∈own4 i:=by rw[en];exact List.mem_cons_self
    have hH:=(s5.ok i _ mb).2.2
    have z:=Zkw (k:=kk) rd kvs vs rr
    refine⟨a,rfl,?_⟩
    rw[Zh5 f1 rk']
    refine DPut.k ⟨_,hH⟩ (by rw[←rr.length_map];exact hz) fun ep=>?_
    exact k σ _ F5 _ sF (s5.change (sv':=.oK (putA (kvs.map (·.1)) vs kk d).1 (putA (kvs.map (·.1)) vs kk d).2) (o':=.dK (putK kvs kk v) ep) (ns':=[(a,.dK (putK kvs kk v) ep)]) ho hx mb (.oK z.1 z.2) (fun p hp=>.inl (List.mem_singleton.mp hp)) nd1)
   ·cases f2
  ·rename_i ks vs
   split at e5
   ·rename_i xs
    obtain⟨kk,f1,f2⟩:=Option.bind_eq_some_iff.mp e5
    split at f2
    ·rename_i hz
     cases f2
     obtain⟨x',hx',sh⟩:=s5.at' i _ ho
     rw[hx]at hx';cases hx'
     obtain⟨a,kvs,ep0,bs0,ea,en,kb,rfl,rr⟩:=Zm4 sh
     subst ea
     have mb:(a,HO.dT kvs ep0 bs0)∈own4 i:=by rw[en];exact List.mem_cons_self
     have hH:=(s5.ok i _ mb).2.2
     have z:=Zkw (k:=kk) rd kvs vs rr
     obtain⟨b,us,rfl,hbF,rb⟩:=rk'.tupF
     rw[Zha f1 rb]at hbF
     refine⟨a,rfl,DPut.t ⟨_,_,hH⟩ (s5.le _ _ hbF) (by rw[←rr.length_map];exact hz) fun ep ep1 bs1 hq=>?_⟩
     rw[hH]at hq
     cases hq
     exact k σ _ F5 _ sF (s5.change (sv':=.oT (putA (kvs.map (·.1)) vs kk d).1 (putA (kvs.map (·.1)) vs kk d).2) (o':=.dT (putK kvs kk v) ep (putB kvs bs0 kk b)) (ns':=[(a,.dT (putK kvs kk v) ep (putB kvs bs0 kk b))]) ho hx mb (.oT (kb.put hbF) z.1 z.2) (fun p hp=>.inl (List.mem_singleton.mp hp)) nd1)
    ·cases f2
   ·cases e5
  ·rename_i q ks vs
   obtain⟨kk,f1,f2⟩:=Option.bind_eq_some_iff.mp e5
   split at f2
   ·rename_i hz
    cases f2
    obtain⟨x',hx',sh⟩:=s5.at' i _ ho
    rw[hx]at hx';cases hx'
    obtain⟨kvs,ep0,ea,en,rfl,rr⟩:=Zm3 sh
    subst ea
    have mb:(q,HO.dK kvs ep0)∈own4 i:=by rw[en];exact List.mem_cons_self
    have hH:=(s5.ok i _ mb).2.2
    have z:=Zkw (k:=kk) rd kvs vs rr
    refine⟨q,rfl,?_⟩
    rw[Zh5 f1 rk']
    refine DPut.k ⟨_,hH⟩ (by rw[←rr.length_map];exact hz) fun ep=>?_
    exact k σ _ F5 _ sF (s5.change (sv':=.oQ q (putA (kvs.map (·.1)) vs kk d).1 (putA (kvs.map (·.1)) vs kk d).2) (o':=.dK (putK kvs kk v) ep) (ns':=[(q,.dK (putK kvs kk v) ep)]) ho hx mb (.oQ z.1 z.2) (fun p hp=>.inl (List.mem_singleton.mp hp)) nd1)
   ·cases f2
  ·cases e5
 ·cases e
@[simp] noncomputable def bmDF(T:String)(g:D→List D→Option SV)(fo:FE)(fd:FD):FE:=fun δ=>(fo δ).bind fun p=>(rdv p.1 p.2).bind fun d0=>if tyOk T d0=true then(fd p.2).bind fun q=>(rdv p.1 q.2).bind fun d1=>(g d1 q.1).bind fun sv=>some (.tmp sv,q.2)else none
noncomputable def Zsw(Z:Ent K)(r:V→List V→Hp→VK→Prop)(g:D→List D→Option SV):Prop:=
 ∀(F H:Hp) (σ:L2.St) (δ:DSt) (own:Nat→Zo) (x:V) (d:D) (vs:List V) (ds:List D) (sv:SV) (Q:VK),SR Z F H σ δ own→RepN K F H d x→Reps K F ds vs→g d ds=some sv→Fin Z F H σ δ own sv Q→r x vs H Q
theorem Zv4{T:String}{r:V→List V→Hp→VK→Prop}{g:D→List D→Option SV}{fo:FE}{fd:FD}(hg:Zsw Z r g)(h:Zb Z (bmDF T g fo fd) σ H Q):tBM K T r (Zb Z fo) (Za6 Z fd) σ H Q:=by
 obtain⟨F,δ,own,rv,δ',s,e,k⟩:=h
 obtain⟨⟨rv1,δ1⟩,e1,e⟩:=Option.bind_eq_some_iff.mp e
 obtain⟨d0,e2,e⟩:=Option.bind_eq_some_iff.mp e
 dsimp only at e
 split at e
 ·rename_i ht
  obtain⟨⟨ds,δ2⟩,e3,e⟩:=Option.bind_eq_some_iff.mp e
  obtain⟨d1,e4,e⟩:=Option.bind_eq_some_iff.mp e
  obtain⟨sv,e5,e⟩:=Option.bind_eq_some_iff.mp e
  cases e
  refine⟨F,δ,own,rv1,δ1,s,e1,fun v H1 F1 own1 sH1 sF1 s1 r1=>?_⟩
  obtain⟨F1',sF1',s1',r1'⟩:=s1.settleR r1
  refine⟨Zvr s1'.le (s1'.rd r1' e2) ht,F1',δ1,own1,ds,δ2,s1',e3,fun vs H2 F2 own2 sH2 sF2 s2 r2=>?_⟩
  exact hg F2 H2 σ δ2 own2 v d1 vs ds sv Q s2 (s2.rd (r1'.mono sF2) e4) r2 e5 fun q H4 F4 ns sH4 sF4 s4 t4=>
   k q H4 F4 own2 (sH1.trans (sH2.trans sH4)) (sF1.trans (sF1'.trans (sF2.trans sF4))) s4 ⟨ns,t4⟩
 ·cases e
@[simp] noncomputable def Zh6:D→List D→Option SV
 |d,[y]=>(getO d y).bind fun o=>some (.fz (o.getD .non))
 |d,[y,z]=>(getO d y).bind fun o=>some (.fz (o.getD z))
 |_,_=>none
theorem Zpx:Zsw Z Zn5 Zh6:=by
 intro F H σ δ own x d vs ds sv Q s r1 r2 e k
 unfold Zh6 at e
 split at e
 ·obtain⟨o,e1,e2⟩:=Option.bind_eq_some_iff.mp e
  cases e2
  cases r2 with
  |cons h t=>
   cases t
   obtain⟨a,rfl,_,g⟩:=Zkx s.le e1 r1 (RepN.of h)
   cases o with
   |none=>exact⟨a,rfl,.inl ⟨_,none,rfl,g,k.fz s .non⟩⟩
   |some d=>obtain⟨v,g,rv⟩:=g;exact⟨a,rfl,.inl ⟨_,some v,rfl,g,k.fz s rv⟩⟩
 ·obtain⟨o,e1,e2⟩:=Option.bind_eq_some_iff.mp e
  cases e2
  cases r2 with
  |cons h t=>
   cases t with
   |cons h2 t=>
    cases t
    obtain⟨a,rfl,_,g⟩:=Zkx s.le e1 r1 (RepN.of h)
    cases o with
    |none=>exact⟨a,rfl,.inr ⟨_,_,none,rfl,g,k.fz s h2⟩⟩
    |some d=>obtain⟨v,g,rv⟩:=g;exact⟨a,rfl,.inr ⟨_,_,some v,rfl,g,k.fz s rv⟩⟩
 ·cases e
end
section
variable{X:Cx}{Z:Ent X.K}{a b c:Expr}{fa fb fc:FE}{pos:Pos}
theorem Zkz:PE X (.Dict [] [] pos) (Zb Z Zm1):=Zmj.imp fun _ _ _ h=>Zpv h
theorem Zsx{apos cpos:Pos}{es:List Expr}{fd:FD}(hu:X.A.units+1<cLine)(ha:PE X a (Zb Z fa))(hb:PA X (b::es) (Za6 Z fd))(hbase:attributeBase a "get" X.env (eval a X.env)=eval a X.env:=by rfl)
  (hfew:((backTo cpos (starEach (b::es) X.env)).all (fun x=>!x.1)&&(backToKw cpos (keywordEach [] X.env)).all (fun x=>x.1.isSome)&&decide ((b::es).length+([]:List Keyword).length+(if([]:List Keyword).isEmpty then 0 else 1)<30))=true:=by rfl)
  (hline:(apos.endLine==cpos.line)=true:=by rfl) (hs:starEach (b::es) X.env=(false,eval b X.env)::starEach es X.env:=by rfl) (hpl:(backTo cpos (starEach es X.env)).any (·.1)=false:=by rfl):
  PE X (.Call (.Attribute a "get" apos) (b::es) [] cpos) (Zb Z (bmDF "dict" Zh6 fa fd)):=
 (Zrr PySem.F.plainAttrs_dict PySem.F.slot_dict_get PySem.F.type_dict_get (Zpu hu) ha hb hbase hfew hline hs hpl).imp fun _ _ _ h=>Zv4 Zpx h
theorem Zsy(i:Nat){x:Str}{px p1:Pos}(hu:X.A.units+1<cLine)(hb:PE X b (Zb Z fb))(hv':PE X a (Zb Z fa))(hN:X.N[i]? =some x:=by rfl)(hv:Vis X.env.scope x:=by first|exact Or.inl rfl|exact Or.inr (Or.inl rfl)|exact Or.inr (Or.inr rfl))(hd:(x==("__debug__":Str))=false:=by decide)
  (hcd:(x==("__classdict__":Str))=false:=by decide) (hs:swapsWith a (some (.Subscript (.Name x px) b p1)) pos.line X.env=pure false:=by rfl):
  PS X (.Assign [.Subscript (.Name x px) b p1] a pos) (Z0 Z (putF i fb fa)):=(Zo4 hu (Zji (i:=i) hN hv hd hcd) hb hv' hs).imp fun _ _ _ h=>Zv3 h
end
end DL
namespace L2
open PySem PySem.Spec PyProof.Rows
variable{X:Cx}
noncomputable def Zv5:List V→Hp→VK→Prop:=fun xs H Q=>∃a kvs,xs=[.ref a]∧RdK H a kvs∧∀p ep,H p=none→Q (.ref p) (upd H p (.dK kvs ep))
end L2
namespace DL
open PySem PySem.Spec PyProof.Rows L2
variable{K:PySem.W.Frag}
section
variable{Z:Ent K}{H:Hp}{σ:L2.St}{Q:VK}{E:Ends}
@[simp] noncomputable def Zzp:List D→Option SV
 | [.dK ks vs]=>some (.oK ks vs)
 |_=>none
@[simp] noncomputable def Zx5(k:Str)(i:Nat):FE:=fun δ=>match δ[i]? with
 |some (some sv)=>some (.tmp (.oK [.inr k] [sv.toD]),δ.set i (some (.fz sv.toD)))
 |_=>none
@[simp] noncomputable def Zsz(ks:List Key)(vs:List D)(k:Key):List Key×List D:=(((ks.zip vs).filter fun p=>decide (p.1≠k)).map (·.1),((ks.zip vs).filter fun p=>decide (p.1≠k)).map (·.2))
@[simp] noncomputable def popF(i:Nat)(fk:FE):FS:=fun δ=>match δ[i]? with
 |some (some (.oK _ _))=>(fk δ).bind fun r=>(rdv r.1 r.2).bind fun kd=>kd.key?.bind fun k=>match r.2[i]? with
  |some (some (.oK ks vs))=>if(look ks vs k).isSome=true then some (.nx (r.2.set i (some (.oK (Zsz ks vs k).1 (Zsz ks vs k).2))))else none
  |_=>none
 |_=>none
end
section
variable{X:Cx}{Z:Ent X.K}{a b c:Expr}{fa fb fc:FE}{pos:Pos}
end
end DL
namespace L2
open PySem PySem.Spec PyProof.Rows
section
variable{prog:Program}{w:World}{A:Around}{E:Value→Shared→Prop}{s:Shared}
end
noncomputable def Zzq:Option Key→Value→Bool
 |none,.none=>true
 |none,_=>false
 |some k,v=>Zed k v
variable{X:Cx}
noncomputable def Zx6(neg:Bool):R2:=fun y x H Q=>∃a kvs,y= .non∧x= .ref a∧RdK H a kvs∧Q (.bl neg) H
end L2
namespace L2
open PySem PySem.Spec PyProof.Rows
noncomputable def Zh7(es:Array DictEntry)(kvs:List (Str×Value)):Prop:=es.size=kvs.length∧∀(i:Nat) (p:Str×Value),kvs[i]? =some p→∃e t,es[i]? =some e∧e.key= .str p.1 t∧e.val=p.2
noncomputable def Zen(h:Heap)(a:Addr)(kvs:List (Str×Value)):Prop:=∃o es ep,h.get? a=some o∧o.ExactDict∧o.data= .dict es ep∧Zh7 es kvs
noncomputable def place(kvs:List (Str×Value))(x:Str):Option Nat:=kvs.findIdx? fun p=>decide (p.1=x)
theorem Zh7.find{es:Array DictEntry}{kvs:List (Str×Value)}(h:Zh7 es kvs)(x:Str):(es.findIdx? fun e=>e.key.isStr x)=place kvs x:=by
 unfold place
 have hA:(es.findIdx? fun e=>e.key.isStr x)=es.toList.findIdx? fun e=>e.key.isStr x:=by obtain⟨l⟩:=es;simp
 rw[hA]
 have:∀(es:List DictEntry) (kvs:List (Str×Value)),es.length=kvs.length→(∀(i:Nat) (p:Str×Value),kvs[i]? =some p→∃e t,es[i]? =some e∧e.key= .str p.1 t∧e.val=p.2)→
   es.findIdx? (fun e=>e.key.isStr x)=kvs.findIdx? fun p=>decide (p.1=x):=by
  intro es
  induction es with
  |nil=>intro kvs hl _;cases kvs with
   |nil=>rfl
   |cons p r=>cases hl
  |cons e es ih=>
   intro kvs hl hp
   cases kvs with
   |nil=>cases hl
   |cons p r=>
    obtain⟨e',t,h1,h2,h3⟩:=hp 0 p rfl
    obtain rfl:e=e':=by simpa using h1
    have hk:e.key.isStr x=decide (p.1=x):=by
     rw[h2]
     show(p.1==x)=_
     by_cases z:p.1=x
     ·rw[z];simp
     ·rw[decide_eq_false z];exact beq_eq_false_iff_ne.mpr z
    rw[List.findIdx?_cons,List.findIdx?_cons,hk,ih r (by simpa using hl) (fun i q hq=>hp (i+1) q (by simpa using hq))]
 exact this es.toList kvs (by rw[Array.length_toList];exact h.1) (fun i p hp=>by
  obtain⟨e,t,h1,h2⟩:=h.2 i p hp
  exact⟨e,t,by rw[Array.getElem?_toList];exact h1,h2⟩)
section
variable{prog:Program}{w:World}{A:Around}{E:Value→Shared→Prop}{s:Shared}
theorem Zk0{d:Addr}{o:Obj}{es:Array DictEntry}{ep:Nat}{kvs:List (Str×Value)}{x:Str}{t:Tok}{n:Int}{Q:Option Nat→Shared→Prop}(ho:s.heap.get? d=some o)(hd:o.data= .dict es ep)(hp:Zh7 es kvs)(q:Q (place kvs x) s):
  wpAny (model prog w) A (dictFind d (.str x t) n) Q E s:=by
 have hall:(es.all fun e=>isExactStrKey e.key)=true:=by
  rw[Array.all_eq_true]
  intro i hi
  have hi':i<kvs.length:=by rw[←hp.1];exact hi
  obtain⟨e,t',h1,h2,_⟩:=hp.2 i kvs[i] (by simp[hi'])
  rw[Array.getElem?_eq_getElem hi]at h1
  cases h1
  rw[h2];rfl
 unfold dictFind
 try with_reducible refine wpAny_holding ?_
 refine wpAny_bind (wpAny_dictEntries ho hd ?_)
 dsimp only
 rw[if_pos hall]
 unfold foundByValue
 rw[hp.find x]
 cases hj:place kvs x with
 |none=>rw[hj]at q;exact wpAny_pure q
 |some j=>
  rw[hj]at q
  obtain⟨hlt,hx,_⟩:=List.findIdx?_eq_some_iff_getElem.mp hj
  obtain⟨e,t',h1,h2,h3⟩:=hp.2 j kvs[j] (by simp[hlt])
  have hx':kvs[j].1=x:=of_decide_eq_true hx
  rw[hx']at h2
  dsimp only
  rw[h1]
  dsimp only
  refine wpAny_bind (wpAny_dictEpoch ho hd ?_)
  rw[h2]
  refine wpAny_bind (SeqAt.EqAt.str_str x t' x t prog w _ _ ?_)
  refine wpAny_bind (wpAny_dictEpoch ho hd ?_)
  rw[if_neg (by simp)]
  simp only[beq_self_eq_true,if_true]
  exact wpAny_bind (wpAny_rule (wpAny_pure q))
end
inductive SHits(A:Around)(s:Shared)(kb:List (Str×Value)):List (Str×Value)→Bool→Prop where
 |nil:SHits A s kb [] true
 |miss {k:Str} {v:Value} {r:List (Str×Value)}:place kb k=none→SHits A s kb ((k,v)::r) false
 |hit {k:Str} {v:Value} {r:List (Str×Value)} {j:Nat} {p:Str×Value} {e b:Bool}:place kb k=some j→kb[j]? =some p→SeqAt.EqAt A s v p.2 e→SHits A s kb r b→SHits A s kb ((k,v)::r) (e&&b)
section
variable{prog:Program}{w:World}{A:Around}{E:Value→Shared→Prop}{s:Shared}
theorem Zd5{nm:String}{a b:Addr}{ka kb:List (Str×Value)}{r:Bool}{Q:Bool→Shared→Prop}(ha:(a==sysModules)=false)(hb:(b==sysModules)=false)(da:Zen s.heap a ka)(db:Zen s.heap b kb)
  (hits:ka.length=kb.length→SHits A s kb ka r) (q:Q (ka.length==kb.length&&r) s):wpAny (model prog w) A (Builtin.Dict.samePairs nm a b) Q E s:=by
 obtain⟨oa,es,ep,ga,_,dta,pa⟩:=da
 obtain⟨ob,es',ep',gb,_,dtb,pb⟩:=db
 have la:=pa.1
 have lb:=pb.1
 unfold Builtin.Dict.samePairs Builtin.Dict.showsAll
 rw[if_neg (by rw[ha];exact Bool.false_ne_true),if_neg (by rw[hb];exact Bool.false_ne_true)]
 refine wpAny_bind (wpAny_pure (wpAny_bind (wpAny_pure (wpAny_bind (wpAny_dictEntries ga dta ?_)))))
 refine wpAny_bind (wpAny_dictEntries gb dtb ?_)
 by_cases hz:es.size=es'.size
 ·have hl:ka.length=kb.length:=by omega
  have q':Q r s:=by simpa[hl]using q
  have hh:=hits hl
  rw[if_neg (by rw[hz];simp)]
  refine wpAny_bind (wpAny_dictEpoch ga dta (wpAny_bind ?_))
  rw[Std.Legacy.Range.forIn_eq_forIn_range']
  simp only[Std.Legacy.Range.size,Nat.sub_zero,Nat.add_sub_cancel,Nat.div_one]
  refine wpAny_forIn_list _ (fun rest x s'=>s'=s∧x=(none,())∧∃i,rest=List.range' i (es.size- i)∧i≤es.size∧SHits A s kb (ka.drop i) r) _ ?_ ?_ _ _ ⟨rfl,rfl,0,by simp,Nat.zero_le _,hh⟩
  ·rintro x rest y s' ⟨rfl,rfl,i,hr,hi,hS⟩
   have hlt:i<es.size:=by
    rcases Nat.lt_or_ge i es.size with z|z
    ·exact z
    ·rw[Nat.sub_eq_zero_of_le z]at hr;cases hr
   rw[show es.size- i=(es.size- (i+1))+1 by omega,List.range'_succ]at hr
   injection hr with hx hrest
   subst hx
   have hlk:x<ka.length:=by omega
   obtain⟨e,t,h1,h2,h3⟩:=pa.2 x ka[x] (by simp[hlk])
   rw[List.drop_eq_getElem_cons hlk]at hS
   refine wpAny_bind (wpAny_dictEntries ga dta ?_)
   rw[h1]
   show wpAny _ _ (holding [e.key,e.val] _ >>=_) _ _ _
   rw[h2]
   refine wpAny_bind (wpAny_holding (wpAny_bind (Zk0 gb dtb pb ?_)))
   generalize hk:ka[x]=p at hS h2 h3⊢
   obtain⟨k,v⟩:=p
   cases hS with
   |miss hn=>
    rw[hn]
    refine wpAny_pure ?_
    show wpAny _ _ (if(!false)=true then _ else _) _ _ _
    rw[if_pos (by decide)]
    exact wpAny_pure (wpAny_pure q')
   | @hit _ _ _ j p' eb bb hn hp he hr'=>
    rw[hn]
    obtain⟨f,t',g1,g2,g3⟩:=pb.2 j p' hp
    refine wpAny_bind (wpAny_dictEntries gb dtb ?_)
    rw[g1]
    rw[show e.val=v from h3]
    dsimp only
    rw[g3]
    refine wpAny_holding (he prog w _ _ ?_)
    cases eb with
    |false=>
     rw[Bool.false_and]at q'
     show wpAny _ _ (if(!false)=true then _ else _) _ _ _
     rw[if_pos (by decide)]
     exact wpAny_pure (wpAny_pure q')
    |true=>
     show wpAny _ _ (if(!true)=true then _ else _) _ _ _
     rw[if_neg (by decide)]
     refine wpAny_bind (wpAny_dictEpoch ga dta ?_)
     rw[if_neg (by simp)]
     exact wpAny_pure ⟨rfl,rfl,x+1,hrest,hlt,by rw[Bool.true_and];exact hr'⟩
  ·rintro x s' ⟨rfl,rfl,i,hr,hi,hS⟩
   have e:i=es.size:=by
    rcases Nat.lt_or_ge i es.size with z|z
    ·rw[show es.size- i=(es.size- (i+1))+1 by omega,List.range'_succ]at hr;cases hr
    ·omega
   rw[e,la,List.drop_length]at hS
   cases hS
   exact wpAny_pure q'
 ·rw[if_pos (by simpa using hz)]
  have hf:(ka.length==kb.length)=false:=by rw[←la,←lb];simpa using hz
  rw[hf,Bool.false_and]at q
  exact wpAny_bind (wpAny_rule (wpAny_pure q))
end
section
variable{A:Around}{s:Shared}{a b:Addr}{ka kb:List (Str×Value)}{r:Bool}
theorem Zen.typeIs(d:Zen s.heap a ka):s.TypeIs (.ref a) "dict":=let⟨o,_,_,ho,hc,_⟩:=d;⟨o,ho,hc.1⟩
theorem Zh8(ha:(a==sysModules)=false)(hb:(b==sysModules)=false)(da:Zen s.heap a ka)(db:Zen s.heap b kb)(hu:A.units<cLine)(hits:ka.length=kb.length→SHits A.in1 s kb ka r):SeqAt.RcAt A s (.ref a) (.ref b) (ka.length==kb.length&&r):=fun prog w E Q q=>by
 refine wpAny_richCompare_same_room (op:=.Eq) da.typeIs db.typeIs PySem.F.slot_dict_eq (wpAny_call_entry PySem.F.slot_dict_eq da.typeIs PySem.F.entry_dict_eq ?_ (PySem.F.args_dict_eq_2 _ _)) hu;show wpAny _ _ (Builtin.Dict.dictSlotArgs "__eq__" ⟨[.ref a,.ref b],[]⟩>>=_) _ _ s
 refine wpAny_bind ?_;unfold Builtin.Dict.dictSlotArgs;refine wpAny_bind (wpAny_notOrdered_dict da.typeIs ?_);show wpAny _ _ (pure (Value.ref a,Value.ref b)) _ _ s
 refine wpAny_pure (wpAny_bind (wpAny_isInstance (T:="dict") db.typeIs PySem.F.sub_dict_dict ?_));simp only[Bool.not_true,Bool.false_eq_true,if_false]
 refine wpAny_bind (wpAny_pure (wpAny_bind (wpAny_pure (wpAny_bind (Zd5 ha hb da db hits ?_)))))
 exact wpAny_pure ⟨_,rfl,(fun x=>nomatch x),by simpa using q⟩
theorem Zd6(ha:(a==sysModules)=false)(hb:(b==sysModules)=false)(da:Zen s.heap a ka)(db:Zen s.heap b kb)(hu:A.units<cLine)(hits:ka.length=kb.length→SHits A.in1 s kb ka r):SeqAt.RcNeAt A s (.ref a) (.ref b) (!(ka.length==kb.length&&r)):=fun prog w E Q q=>by
 refine wpAny_richCompare_same_room (op:=.NotEq) da.typeIs db.typeIs PySem.F.slot_dict_ne (wpAny_call_entry PySem.F.slot_dict_ne da.typeIs PySem.F.entry_dict_ne ?_ (PySem.F.args_dict_ne_2 _ _)) hu;show wpAny _ _ (Builtin.Dict.dictSlotArgs "__ne__" ⟨[.ref a,.ref b],[]⟩>>=_) _ _ s
 refine wpAny_bind ?_;unfold Builtin.Dict.dictSlotArgs;refine wpAny_bind (wpAny_notOrdered_dict da.typeIs ?_);show wpAny _ _ (pure (Value.ref a,Value.ref b)) _ _ s
 refine wpAny_pure (wpAny_bind (wpAny_isInstance (T:="dict") db.typeIs PySem.F.sub_dict_dict ?_));simp only[Bool.not_true,Bool.false_eq_true,if_false]
 refine wpAny_bind (wpAny_pure (wpAny_bind (wpAny_pure (wpAny_bind (Zd5 ha hb da db hits ?_)))))
 exact wpAny_pure ⟨_,rfl,(fun x=>nomatch x),by simpa using q⟩
end
end L2
namespace DL
open PySem PySem.Spec PyProof.Rows L2
variable{K:PySem.W.Frag}
@[simp] noncomputable def strK?:List Key→Option (List Str)
 | []=>some []
 | .inr x::r=>(strK? r).bind fun t=>some (x::t)
 |_=>none
@[simp] noncomputable def eqKV(f:D→D→Option Bool)(ys:List Str)(us:List D):List Str→List D→Option Bool
 |x::xs,v::vs=>match look ys us x with
  |none=>some false
  |some u=>(f v u).bind fun b=>(eqKV f ys us xs vs).bind fun c=>some (b&&c)
 |_,_=>some true
@[simp] noncomputable def Zdj(f:D→D→Option Bool):D→D→Option Bool
 | .dK ks vs,.dK ks' vs'=>(strK? ks).bind fun xs=>(strK? ks').bind fun ys=>if xs.length=ys.length then eqKV f ys vs' xs vs else some false
 |d1,d2=>Zcy f d1 d2
@[simp] noncomputable def eqM:Nat→D→D→Option Bool
 |0=>fun _ _=>none
 |n+1=>Zdj (eqM n)
theorem Zk1{P:Program}{w:World}:∀{es:List DictEntry} {kvs:List (Key×Value)} {xs:List Str},Pairs (Zy P w) es kvs→strK? (kvs.map (·.1))=some xs→
  ∃skv:List (Str×Value),skv.map (·.1)=xs∧skv.map (·.2)=kvs.map (·.2)∧es.length=skv.length∧∀(i:Nat) (p:Str×Value),skv[i]? =some p→∃e t,es[i]? =some e∧e.key= .str p.1 t∧e.val=p.2
 |_,_,_,.nil,e=>by cases e;exact⟨[],rfl,rfl,rfl,fun i p h=>by simp at h⟩
 |_,_,_,@Pairs.cons _ _ _ _ _ en kv es kvs hi hv t,e=>by
  obtain⟨k,v⟩:=kv
  cases k with
  |inl i=>cases e
  |inr x=>
   have e:(strK? (kvs.map (·.1))).bind (fun t=>some (x::t))=some _:=e
   obtain⟨xs,e1,e2⟩:=Option.bind_eq_some_iff.mp e
   cases e2
   obtain⟨skv,h1,h2,h3,h4⟩:=Zk1 t e1
   refine⟨(x,v)::skv,by rw[List.map_cons,h1],by rw[List.map_cons,List.map_cons,h2],by rw[List.length_cons,List.length_cons,h3],fun i p hp=>?_⟩
   cases i with
   |zero=>
    obtain rfl:(x,v)=p:=by simpa using hp
    rcases Zx (show Zed (.inr x) en.key=true from hi)with⟨j,t',e3,_⟩|⟨y,t',e3,e4⟩
    ·cases e3
    ·cases e3;exact⟨en,t',rfl,e4,hv⟩
   |succ i=>exact h4 i p (by simpa using hp)
theorem Zhb:∀{kvs:List (Key×V)} {vs:List (Key×Value)},KV kvs vs→vs.map (·.1)=kvs.map (·.1)∧Vals (kvs.map (·.2)) (vs.map (·.2))
 |_,_,.nil=>⟨rfl,.nil⟩
 |_,_,.cons h t=>⟨by rw[List.map_cons,List.map_cons,h.1,(Zhb t).1],.cons h.2 (Zhb t).2⟩
section
variable{X:Cx}{pins:List (Addr×Obj)}{σ:L2.St}{F H:Hp}{s:Shared}
theorem Zeo(I:Inv X pins σ H s){a:Addr}{kvs:List (Key×V)}{xs:List Str}(ha:HK H a kvs)(e:strK? (kvs.map (·.1))=some xs):
  (a==sysModules)=false∧∃skv:List (Str×Value),Zen s.heap a skv∧skv.map (·.1)=xs∧Vals (kvs.map (·.2)) (skv.map (·.2))∧(kvs.map (·.1)).Nodup:=by
 obtain⟨z,hd,vs,rel,dd⟩:=Zrt I.hok ha
 obtain⟨k1,k2⟩:=Zhb rel
 obtain⟨o,es,ep,ho,hc,hdt,_,hp,nd⟩:=dd
 rw[←k1]at e
 obtain⟨skv,h1,h2,h3,h4⟩:=Zk1 hp e
 refine⟨hd,skv,⟨o,es,ep,ho,hc,hdt,by rw[←h3];simp,fun i p hpp=>?_⟩,h1,by rw[h2];exact k2,by rw[←k1];exact nd⟩
 obtain⟨en,t,g1,g2⟩:=h4 i p hpp
 exact⟨en,t,by rw[←Array.getElem?_toList];exact g1,g2⟩
theorem Zcm(x:Str):∀(skv:List (Str×Value)) (us:List D) (Us:List V),Reps X.K F us Us→Vals Us (skv.map (·.2))→match look (skv.map (·.1)) us x with
  |none=>place skv x=none
  |some u=>∃j p U,place skv x=some j∧skv[j]? =some p∧Rep X.K F u U∧RelV U p.2
 | [],_,_,r,v=>by cases v;cases r;rfl
 |p::skv,_,_,r,v=>by
  cases v with
  | @cons U u' Us us' hU tU=>
  cases r with
  | @cons d v' ds vs' h t=>
   have ih:=Zcm x skv ds Us t tU
   show match(if p.1=x then some d else look (skv.map (·.1)) ds x)with
    |none=>place (p::skv) x=none
    |some u=>∃j q U,place (p::skv) x=some j∧(p::skv)[j]? =some q∧Rep X.K F u U∧RelV U q.2
   have hpl:place (p::skv) x=if p.1=x then some 0 else(place skv x).map (· +1):=by
    unfold place
    rw[List.findIdx?_cons]
    by_cases e:p.1=x<;> simp[e]
   by_cases e:p.1=x
   ·rw[if_pos e,hpl,if_pos e]
    exact⟨0,p,U,rfl,rfl,h,hU⟩
   ·rw[if_neg e,hpl,if_neg e]
    cases hl:look (skv.map (·.1)) ds x with
    |none=>rw[hl]at ih;dsimp only at ih⊢;rw[ih];rfl
    |some u=>
     rw[hl]at ih
     obtain⟨j,q,U',h1,h2,h3,h4⟩:=ih
     exact⟨j+1,q,U',by rw[h1];rfl,by simpa using h2,h3,h4⟩
theorem Zk2{A:Around}{f:D→D→Option Bool}(ih:∀d1 d2 b x y v u,Rep X.K F d1 x→RelV x v→Rep X.K F d2 y→RelV y u→f d1 d2=some b→SeqAt.EqAt A s v u b){skv2:List (Str×Value)}{us:List D}{Us:List V}(ru:Reps X.K F us Us)(vu:Vals Us (skv2.map (·.2))):
  ∀(skv:List (Str×Value)) (vs:List D) (Vs:List V) (r:Bool),Reps X.K F vs Vs→Vals Vs (skv.map (·.2))→eqKV f (skv2.map (·.1)) us (skv.map (·.1)) vs=some r→SHits A s skv2 skv r
 | [],_,_,_,r,v,e=>by cases v;cases r;cases e;exact .nil
 |p::skv,_,_,_,r,v,e=>by
  obtain⟨k,w⟩:=p
  cases v with
  | @cons V0 u' Vs us' hV tV=>
  cases r with
  | @cons d v' ds vs' h t=>
   have lp:=Zcm (X:=X) (F:=F) k skv2 us Us ru vu
   have e:(match look (skv2.map (·.1)) us k with
    |none=>some false
    |some u=>(f d u).bind fun b=>(eqKV f (skv2.map (·.1)) us (skv.map (·.1)) ds).bind fun c=>some (b&&c))=some _:=e
   cases hl:look (skv2.map (·.1)) us k with
   |none=>
    rw[hl]at lp e
    cases e
    exact .miss lp
   |some u=>
    rw[hl]at lp e
    obtain⟨j,q,U,h1,h2,h3,h4⟩:=lp
    obtain⟨b,e1,e2⟩:=Option.bind_eq_some_iff.mp e
    obtain⟨c,e3,e4⟩:=Option.bind_eq_some_iff.mp e2
    cases e4
    exact .hit h1 h2 (ih _ _ _ _ _ _ _ h hV h3 h4 e1) (Zk2 ih ru vu skv ds Vs c t tV e3)
end
end DL
namespace DL
open PySem PySem.Spec PyProof.Rows L2
variable{K:PySem.W.Frag}
theorem Zf1:∀(skv:List (Str×Value)),(skv.map (·.1)).Nodup→∀q∈skv,∃j,place skv q.1=some j∧skv[j]? =some q
 | [],_,_,h=>nomatch h
 |p::r,nd,q,h=>by
  obtain⟨n1,n2⟩:=List.nodup_cons.mp nd
  have hpl:place (p::r) q.1=if p.1=q.1 then some 0 else(place r q.1).map (· +1):=by
   unfold place
   rw[List.findIdx?_cons]
   by_cases e:p.1=q.1<;> simp[e]
  rcases List.mem_cons.mp h with e|e
  ·subst e;exact⟨0,by rw[hpl,if_pos rfl],rfl⟩
  ·obtain⟨j,h1,h2⟩:=Zf1 r n2 q e
   have hne:¬p.1=q.1:=fun z=>n1 (List.mem_map.mpr ⟨q,e,z.symm⟩)
   exact⟨j+1,by rw[hpl,if_neg hne,h1];rfl,by simpa using h2⟩
theorem Zh9:∀{ks:List Key} {xs:List Str},strK? ks=some xs→ks=xs.map Sum.inr
 | [],_,e=>by cases e;rfl
 | .inr x::ks,_,e=>by
  obtain⟨t,e1,e2⟩:=Option.bind_eq_some_iff.mp e
  cases e2
  rw[Zh9 e1];rfl
 | .inl i::ks,_,e=>by cases e
theorem Zi4{ks:List Key}{xs:List Str}(e:strK? ks=some xs)(nd:ks.Nodup):xs.Nodup:=by
 rw[Zh9 e]at nd
 have z:(xs.map Sum.inr:List Key).Pairwise (· ≠ ·):=nd
 rw[List.pairwise_map]at z
 exact z.imp fun h e=>h (by rw[e])
section
variable{X:Cx}{pins:List (Addr×Obj)}{σ:L2.St}{F H:Hp}{s:Shared}
theorem Zf2{f:D→D→Option Bool}(ih:∀(d1 d2:D) (b:Bool) (x y:V) (v:Value),Rep X.K F d1 x→RelV x v→Rep X.K F d2 y→RelV y v→f d1 d2=some b→b=true){skv:List (Str×Value)}{us:List D}{Us:List V}(ru:Reps X.K F us Us)(vu:Vals Us (skv.map (·.2))):
  ∀(skv1:List (Str×Value)) (vs:List D) (Vs:List V) (r:Bool),(∀q∈skv1,∃j,place skv q.1=some j∧skv[j]? =some q)→Reps X.K F vs Vs→Vals Vs (skv1.map (·.2))→eqKV f (skv.map (·.1)) us (skv1.map (·.1)) vs=some r→r=true
 | [],_,_,_,_,r,v,e=>by cases v;cases r;cases e;rfl
 |p::skv1,_,_,_,hs,r,v,e=>by
  obtain⟨k,w⟩:=p
  cases v with
  | @cons V0 u' Vs us' hV tV=>
  cases r with
  | @cons d v' ds vs' h t=>
   have lp:=Zcm (X:=X) (F:=F) k skv us Us ru vu
   obtain⟨j,hj1,hj2⟩:=hs (k,w) List.mem_cons_self
   have e:(match look (skv.map (·.1)) us k with
    |none=>some false
    |some u=>(f d u).bind fun b=>(eqKV f (skv.map (·.1)) us (skv1.map (·.1)) ds).bind fun c=>some (b&&c))=some _:=e
   cases hl:look (skv.map (·.1)) us k with
   |none=>
    rw[hl]at lp
    rw[show place skv k=some j from hj1]at lp
    cases lp
   |some u=>
    rw[hl]at lp e
    obtain⟨j',q,U,h1,h2,h3,h4⟩:=lp
    rw[show place skv k=some j from hj1]at h1
    cases h1
    rw[hj2]at h2
    cases h2
    obtain⟨b,e1,e2⟩:=Option.bind_eq_some_iff.mp e
    obtain⟨c,e3,e4⟩:=Option.bind_eq_some_iff.mp e2
    cases e4
    rw[ih _ _ _ _ _ _ h hV h3 h4 e1,Zf2 ih ru vu skv1 ds Vs c (fun q hq=>hs q (List.mem_cons_of_mem _ hq)) t tV e3];rfl
theorem Zep(I:Inv X pins σ H s)(le:Same F H):∀(n:Nat) (d1 d2:D) (b:Bool) (x y:V) (v:Value),Rep X.K F d1 x→RelV x v→Rep X.K F d2 y→RelV y v→eqM n d1 d2=some b→b=true
 |0,_,_,_,_,_,_,_,_,_,_,e=>by cases e
 |n+1,d1,d2,b,x,y,v,r1,v1,r2,v2,e=>by
  unfold eqM Zdj at e
  split at e
  ·cases r1 with
   | @dK a ks ds kvs ep1 h1 e1 rr1=>
   cases r2 with
   | @dK a' ks' ds' kvs' ep2 h2 e2 rr2=>
   cases v1
   cases(show Value.ref a=Value.ref a' from v2)
   rw[h1]at h2
   cases h2
   subst e1 e2
   obtain⟨xs,f1,e⟩:=Option.bind_eq_some_iff.mp e
   obtain⟨ys,f2,e⟩:=Option.bind_eq_some_iff.mp e
   rw[f1]at f2
   cases f2
   rw[if_pos rfl]at e
   obtain⟨_,skv,_,hk,hv,nd⟩:=Zeo I ⟨_,le _ _ h1⟩ f1
   have ndx:=Zi4 f1 nd
   rw[←hk]at e ndx
   exact Zf2 (Zep I le n) rr2 hv skv _ _ b (Zf1 skv ndx) rr1 hv e
  ·exact Zfv I le (Zep I le n) d1 d2 b x y v r1 v1 r2 v2 e
theorem rcM(I:Inv X pins σ H s)(le:Same F H){A:Around}{f:D→D→Option Bool}{d1 d2:D}{b:Bool}{x y:V}{v u:Value}
  (ih:∀d1 d2 b x y v u,Rep X.K F d1 x→RelV x v→Rep X.K F d2 y→RelV y u→f d1 d2=some b→SeqAt.EqAt A.in1 s v u b) (r1:RepN X.K F H d1 x) (v1:RelV x v) (r2:RepN X.K F H d2 y) (v2:RelV y u)
  (e:Zdj f d1 d2=some b) (hu:A.units<cLine) (hr:Z6 x=false∨Z6 y=false):(∃a c,v= .ref a∧u= .ref c)∧SeqAt.RcAt A s v u b∧SeqAt.RcNeAt A s v u (!b):=by
 unfold Zdj at e
 split at e
 ·obtain⟨a1,kvs1,rfl,ha1,rfl,rr1⟩:=r1.dK le
  obtain⟨a2,kvs2,rfl,ha2,rfl,rr2⟩:=r2.dK le
  cases v1;cases v2
  obtain⟨xs,f1,e⟩:=Option.bind_eq_some_iff.mp e
  obtain⟨ys,f2,e⟩:=Option.bind_eq_some_iff.mp e
  obtain⟨m1,skv1,sd1,hk1,hv1,_⟩:=Zeo I ha1 f1
  obtain⟨m2,skv2,sd2,hk2,hv2,_⟩:=Zeo I ha2 f2
  have l1:skv1.length=xs.length:=by rw[←hk1,List.length_map]
  have l2:skv2.length=ys.length:=by rw[←hk2,List.length_map]
  refine⟨⟨_,_,rfl,rfl⟩,?_⟩
  split at e
  ·rename_i hl
   rw[←hk1,←hk2]at e
   have hits:skv1.length=skv2.length→SHits A.in1 s skv2 skv1 b:=fun _=>Zk2 ih rr2 hv2 skv1 _ _ b rr1 hv1 e
   have hb:b=(skv1.length==skv2.length&&b):=by rw[l1,l2,hl];simp
   rw[hb]
   exact⟨Zh8 m1 m2 sd1 sd2 hu hits,Zd6 m1 m2 sd1 sd2 hu hits⟩
  ·rename_i hl
   cases e
   have hits:skv1.length=skv2.length→SHits A.in1 s skv2 skv1 false:=fun z=>absurd (by omega) hl
   have hb:false=(skv1.length==skv2.length&&false):=by simp
   rw[hb]
   exact⟨Zh8 m1 m2 sd1 sd2 hu hits,Zd6 m1 m2 sd1 sd2 hu hits⟩
 ·exact rcN I le ih r1 v1 r2 v2 e hu hr
theorem Zf3(I:Inv X pins σ H s)(le:Same F H):∀(n:Nat) (A:Around) (d1 d2:D) (b:Bool) (x y:V) (v u:Value),A.units+n<cLine→Rep X.K F d1 x→RelV x v→Rep X.K F d2 y→RelV y u→eqM n d1 d2=some b→SeqAt.EqAt A s v u b
 |0,_,_,_,_,_,_,_,_,_,_,_,_,_,e=>by cases e
 |n+1,A,d1,d2,b,x,y,v,u,hu,r1,v1,r2,v2,e=>by
  by_cases hf:Z6 x=true∧Z6 y=true
  ·have e':eqS d1 d2=some b:=by
    unfold eqM Zdj at e
    split at e
    ·cases r1;cases hf.1
    ·unfold Zcy at e
     split at e
     ·cases r1;cases hf.1
     ·cases r1;cases hf.1
     ·cases r1;cases hf.1
     ·cases r1;cases hf.1
     ·exact e
   obtain⟨f1,f2,rfl⟩:=Zc3 (H:=H) e' (RepN.of r1) (RepN.of r2)
   exact Zns v1 v2 f1 f2
  ·have hf':Z6 x=false∨Z6 y=false:=by
    cases h1:Z6 x with
    |false=>exact .inl rfl
    |true=>cases h2:Z6 y with
     |false=>exact .inr rfl
     |true=>exact absurd ⟨h1,h2⟩ hf
   obtain⟨⟨a,c,rfl,rfl⟩,h1,_⟩:=rcM I le (A:=A) (f:=eqM n) (fun d1 d2 b x y v u q1 w1 q2 w2 e=>Zf3 I le n A.in1 d1 d2 b x y v u (by have:A.in1.units=A.units+1:=rfl;omega) q1 w1 q2 w2 e) (RepN.of r1) v1 (RepN.of r2) v2 e (by omega) hf'
   by_cases hac:a=c
   ·subst hac
    rw[Zep I le (n+1) d1 d2 b x y _ r1 v1 r2 v2 e]
    exact SeqAt.EqAt.same _
   ·exact SeqAt.EqAt.of_refs hac h1
noncomputable def rEqM(K:PySem.W.Frag)(neg:Bool):R2:=fun x y H Q=>∃F d1 d2 b,Same F H∧RepN K F H d1 x∧RepN K F H d2 y∧eqM 48 d1 d2=some b∧(Z6 x=false∨Z6 y=false)∧Q (.bl (if neg then !b else b)) H
theorem Zn6(hu:X.A.units+64<cLine):OpR X (compareOp .Eq) (rEqM X.K false):=by
 intro pins s σ H x y v u Q I rx ry h
 obtain⟨F,d1,d2,b,le,r1,r2,e,hf,q⟩:=h
 obtain⟨_,h1,_⟩:=rcM I le (A:=X.A) (f:=eqM 47) (fun d1 d2 b x y v u q1 w1 q2 w2 e=>Zf3 I le 47 X.A.in1 d1 d2 b x y v u (by have:X.A.in1.units=X.A.units+1:=rfl;omega) q1 w1 q2 w2 e) r1 rx r2 ry e (by omega) hf
 exact h1 X.prog X.w X.xe _ ⟨.bl b,H,I,rfl,q⟩
theorem Zs0(hu:X.A.units+64<cLine):OpR X (compareOp .NotEq) (rEqM X.K true):=by
 intro pins s σ H x y v u Q I rx ry h
 obtain⟨F,d1,d2,b,le,r1,r2,e,hf,q⟩:=h
 obtain⟨_,_,h1⟩:=rcM I le (A:=X.A) (f:=eqM 47) (fun d1 d2 b x y v u q1 w1 q2 w2 e=>Zf3 I le 47 X.A.in1 d1 d2 b x y v u (by have:X.A.in1.units=X.A.units+1:=rfl;omega) q1 w1 q2 w2 e) r1 rx r2 ry e (by omega) hf
 exact h1 X.prog X.w X.xe _ ⟨.bl !b,H,I,rfl,q⟩
end
end DL
namespace DL
open PySem PySem.Spec PyProof.Rows L2
variable{K:PySem.W.Frag}
@[simp] noncomputable def eqY(d1 d2:D):Option SV:=if d1.isFlat=true∧d2.isFlat=true then eqD d1 d2 else(eqM 48 d1 d2).bind fun b=>some (.fz (.bl b))
@[simp] noncomputable def neY(d1 d2:D):Option SV:=if d1.isFlat=true∧d2.isFlat=true then neD d1 d2 else(eqM 48 d1 d2).bind fun b=>some (.fz (.bl !b))
@[simp] noncomputable def inY(d1 d2:D):Option SV:=match d1,d2 with
 | .non,.dK _ _=>some (.fz (.bl false))
 |_,_=>inX d1 d2
@[simp] noncomputable def Zs1(d1 d2:D):Option SV:=match d1,d2 with
 | .non,.dK _ _=>some (.fz (.bl true))
 |_,_=>Zsv d1 d2
section
variable{Z:Ent K}
theorem Zk3{F H:Hp}{d1 d2:D}{x y:V}(r1:RepN K F H d1 x)(r2:RepN K F H d2 y)(hf:¬(d1.isFlat=true∧d2.isFlat=true)):Z6 x=false∨Z6 y=false:=by
 cases h1:d1.isFlat with
 |false=>exact .inl (Zd4 r1 h1)
 |true=>cases h2:d2.isFlat with
  |false=>exact .inr (Zd4 r2 h2)
  |true=>exact absurd ⟨h1,h2⟩ hf
theorem Zs2:Za0 Z (fun x y H Q=>rEq x y H Q∨rEqM K false x y H Q) eqY:=by
 intro F H σ δ own x y d1 d2 sv Q s r1 r2 e k
 unfold eqY at e
 split at e
 ·exact .inl (p_eq F H σ δ own x y d1 d2 sv Q s r1 r2 e k)
 ·rename_i hf
  obtain⟨b,e1,e2⟩:=Option.bind_eq_some_iff.mp e
  cases e2
  exact .inr ⟨F,d1,d2,b,s.le,r1,r2,e1,Zk3 r1 r2 hf,k.fz s (.bl _)⟩
theorem Zv6:Za0 Z (fun x y H Q=>rNe x y H Q∨rEqM K true x y H Q) neY:=by
 intro F H σ δ own x y d1 d2 sv Q s r1 r2 e k
 unfold neY at e
 split at e
 ·exact .inl (p_ne F H σ δ own x y d1 d2 sv Q s r1 r2 e k)
 ·rename_i hf
  obtain⟨b,e1,e2⟩:=Option.bind_eq_some_iff.mp e
  cases e2
  exact .inr ⟨F,d1,d2,b,s.le,r1,r2,e1,Zk3 r1 r2 hf,k.fz s (.bl _)⟩
end
section
variable{X:Cx}{Z:Ent X.K}{a b c:Expr}{fa fb fc:FE}{pos:Pos}
theorem Zs3(hv:X.A.units+64<cLine)(ha:PE X a (Zb Z fa))(hb:PE X b (Zb Z fb)):PE X (.Compare a [.Eq] [b] pos) (Zb Z (binF eqY fa fb)):=Zsm (Zrf.or (Zn6 hv)) Zs2 ha hb (Zb4 _)
theorem Zpy(hv:X.A.units+64<cLine)(ha:PE X a (Zb Z fa))(hb:PE X b (Zb Z fb)):PT X (.Compare a [.Eq] [b] pos) (Z1 Z (Z9 (binF eqY fa fb))):=Zft (Zrf.or (Zn6 hv)) Zs2 ha hb (Zb4 _)
theorem Zs4(hv:X.A.units+64<cLine)(ha:PE X a (Zb Z fa))(hb:PE X b (Zb Z fb)):PT X (.Compare a [.NotEq] [b] pos) (Z1 Z (Z9 (binF neY fa fb))):=Zft (Zuz.or (Zs0 hv)) Zv6 ha hb (Zb4 _)
end
end DL
namespace DL
open PySem PySem.Spec PyProof.Rows L2
variable{K:PySem.W.Frag}
section
variable{Z:Ent K}{H:Hp}{σ:L2.St}{Q:VK}{E:Ends}
@[simp] noncomputable def Zzr:FE:=fun δ=>some (.tmp (.oN [] []),δ)
@[simp] noncomputable def Zzs(i j:Nat):FS:=fun δ=>match δ[i]?,δ[j]? with
 |some (some (.oN ks xss)),some (some (.fz kd))=>kd.key?.bind fun k=>if(ks.any fun x=>decide (x=k))=false∧xss.length<PySem.sizeLine then some (.nx (δ.set i (some (.oN (ks++[k]) (xss++[[]])))))else none
 |_,_=>none
end
@[simp] noncomputable def Zn7:List Key→Key→Option Nat
 | [],_=>none
 |a::r,k=>if a=k then some 0 else(Zn7 r k).map (· +1)
section
variable{Z:Ent K}{H:Hp}{σ:L2.St}{Q:VK}{E:Ends}
@[simp] noncomputable def Zzt(i j:Nat)(fe:FE):FS:=fun δ=>match δ[i]?,δ[j]? with
 |some (some (.oN ks _)),some (some (.fz kd))=>kd.key?.bind fun k=>(Zn7 ks k).bind fun p=>(fe δ).bind fun q=>(frz q.1 q.2).bind fun r=>match r.2[i]? with
  |some (some (.oN ks' xss))=>if ks'=ks then(xss[p]?).bind fun xs=>if xs.length<PySem.sizeLine then some (.nx (r.2.set i (some (.oN ks (xss.set p (xs++[r.1]))))))else none else none
  |_=>none
 |_,_=>none
end
end DL
namespace DL
open PySem PySem.Spec PyProof.Rows L2
variable{K:PySem.W.Frag}
section
variable{Z:Ent K}{H:Hp}{σ:L2.St}{E:Ends}
@[simp] noncomputable def retZ(fe:FE):FS:=fun δ=>(fe δ).bind fun p=>(frz p.1 p.2).bind fun q=>some (.rt (.fz q.1))
end
section
variable{X:Cx}{Z:Ent X.K}{a b c:Expr}{fa fb fc:FE}{pos:Pos}
end
end DL
namespace L2
open PySem PySem.Spec PyProof.Rows
variable{X:Cx}
noncomputable def Zv7(K:PySem.W.Frag):V→List V→Hp→VK→Prop:=fun x xs H Q=>∃p ys y j,x= .ref p∧xs=[y]∧SqL K H p ys∧Z6 y=true∧ys.all Z6=true∧(ys.findIdx? fun z=>eqV z y)=some j∧Q (.int (j:Nat)) H
noncomputable def Zv8:V→List V→Hp→VK→Prop:=fun x xs H Q=>∃a b i rest,x= .str a∧xs=[.str b]∧Builtin.Str.occurrences a b 0 a.length 1=i::rest∧Q (.int (i:Nat)) H
noncomputable def Zv9:V→List V→Hp→VK→Prop:=fun x xs H Q=>∃a b,x= .str a∧xs=[.str b]∧a.length≤sizeLine∧Q (.str (Txt.rstripChars a b)) H
noncomputable def Zs5:R2:=fun x y H Q=>∃a k,x= .str a∧y= .int k∧MulOk a k∧Q (.str (Txt.mul a k)) H
theorem Zpz:OpR X (binaryOp .Mult) Zs5:=by
 intro pins s σ H x y v u Q I rx ry h
 obtain⟨a,k,rfl,rfl,hm,q⟩:=h
 obtain⟨t,rfl⟩:=rx
 obtain⟨t',rfl⟩:=ry
 exact SB.mul hm fun t' k=>⟨.str _,H,I.tok _,⟨_,rfl⟩,q⟩
end L2
namespace DL
open PySem PySem.Spec PyProof.Rows L2
variable{K:PySem.W.Frag}
@[simp] noncomputable def D.fv:D→V
 | .bl b=>.bl b
 | .int i=>.int i
 | .str x=>.str x
 |_=>.non
noncomputable def eqFl(y x:D):Bool:=eqV y.fv x.fv
@[simp] theorem Zuh(a b:Str):eqFl (.str a) (.str b)=decide (a=b):=by
 show(a==b)=decide (a=b)
 by_cases h:a=b
 ·subst h;simp
 ·rw[decide_eq_false h];exact beq_eq_false_iff_ne.mpr h
@[simp] theorem Zwa(a b:Bool):eqFl (.bl a) (.bl b)=decide (a=b):=by cases a<;> cases b<;> rfl
@[simp] theorem Zui:eqFl .non .non=true:=rfl
@[simp] theorem Zwb(a:Str):eqFl (.str a) .non=false:=rfl
noncomputable def inFl(x:D)(xs:List D):Bool:=xs.any fun y=>eqFl y x
noncomputable def D.seq?:D→Option (List D)
 | .lst xs=>some xs
 | .tup xs=>some xs
 |_=>none
@[simp] theorem Zwc(xs:List D):D.seq? (.lst xs)=some xs:=rfl
@[simp] theorem Zwd(xs:List D):D.seq? (.tup xs)=some xs:=rfl
@[simp] theorem Zwe(x:Str):D.seq? (.str x)=none:=rfl
@[simp] theorem Zx7(ks:List Key)(vs:List D):D.seq? (.dK ks vs)=none:=rfl
@[simp] theorem Zx8(ks:List (List Key))(vs:List D):D.seq? (.dT ks vs)=none:=rfl
@[simp] noncomputable def inZ(d1 d2:D):Option SV:=match d2.seq? with
 |some xs=>if d1.isFlat=true∧xs.all D.isFlat=true then some (.fz (.bl (inFl d1 xs)))else none
 |none=>inY d1 d2
@[simp] noncomputable def Zx9(d1 d2:D):Option SV:=match d2.seq? with
 |some xs=>if d1.isFlat=true∧xs.all D.isFlat=true then some (.fz (.bl (!inFl d1 xs)))else none
 |none=>Zs1 d1 d2
section
variable{Z:Ent K}{H:Hp}{σ:L2.St}{Q:VK}{E:Ends}
@[simp] noncomputable def Zya:List D→Option SV
 | [.lst xs,x]=>if x.isFlat=true∧xs.all D.isFlat=true then(xs.findIdx? fun y=>eqFl y x).bind fun j=>some (.fz (.int (j:Nat)))else none
 |_=>none
@[simp] noncomputable def Zwf:List D→Option SV
 | [.str a,.str b]=>match Builtin.Str.occurrences a b 0 a.length 1 with
  |i::_=>some (.fz (.int (i:Nat)))
  | []=>none
 |_=>none
@[simp] noncomputable def Zwg:List D→Option SV
 | [.str a,.str b]=>if a.length≤PySem.sizeLine then some (.fz (.str (Txt.rstripChars a b)))else none
 |_=>none
open Classical in
noncomputable def mulS(a:Str)(k:Int):Option SV:=if MulOk a k then some (.fz (.str (Txt.mul a k)))else none
theorem Zp0{a:Str}{k:Int}{sv:SV}(h:mulS a k=some sv):MulOk a k∧sv= .fz (.str (Txt.mul a k)):=by
 unfold mulS at h
 split at h
 ·rename_i hm;cases h;exact⟨hm,rfl⟩
 ·cases h
noncomputable def Zm5(i j:Int):Prop:=cMul i j=true
open Classical in
noncomputable def mulI(i j:Int):Option SV:=if Zm5 i j then some (.fz (.int (i*j)))else none
theorem Zp1{i j:Int}{sv:SV}(h:mulI i j=some sv):mulD (.int i) (.int j)=some sv:=by
 unfold mulI at h
 split at h
 ·rename_i hc
  cases h
  unfold Zm5 at hc
  simp[hc]
 ·cases h
theorem Zs6{i j:Int}(h:-(2^64)<j∧j<2^64):mulI i j=some (.fz (.int (i*j))):=by
 unfold mulI
 rw[if_pos]
 unfold Zm5 cMul
 rw[decide_eq_true h.1,decide_eq_true h.2];simp
theorem Zn8{i j:Int}(h:-(2^64)<i∧i<2^64):mulI i j=some (.fz (.int (i*j))):=by
 unfold mulI
 rw[if_pos]
 unfold Zm5 cMul
 rw[decide_eq_true h.1,decide_eq_true h.2];simp
noncomputable def mulZ:D→D→Option SV
 | .str a,.int k=>mulS a k
 | .int i,.int j=>mulI i j
 |_,_=>none
@[simp] theorem Zwh(a:Str)(k:Int):mulZ (.str a) (.int k)=mulS a k:=rfl
@[simp] theorem Zwi(i j:Int):mulZ (.int i) (.int j)=mulI i j:=rfl
theorem Zs7:Za0 Z (fun x y H Q=>rI CMul (fun i j=>V.int (i*j)) x y H Q∨Zs5 x y H Q) mulZ:=by
 intro F H σ δ own x y d1 d2 sv Q s r1 r2 e k
 unfold mulZ at e
 split at e
 ·obtain⟨hm,rfl⟩:=Zp0 e
  exact .inr ⟨_,_,r1.str,r2.int,hm,k.fz s (.str _)⟩
 ·exact .inl (Zvo F H σ δ own x y _ _ sv Q s r1 r2 (Zp1 e) k)
 ·cases e
@[simp] noncomputable def strD:List D→Option SV
 | [.int i]=>if i.natAbs.log2<1920 then some (.fz (.str (toString i)))else none
 |_=>none
@[simp] noncomputable def Zwj(kd d:D):Option (Option SV)→Option SV
 |some (some (.ol xs))=>match kd with
  | .int i=>(ixN xs.length i).bind fun j=>some (.ol (xs.set j d))
  |_=>none
 |_=>none
@[simp] noncomputable def SV.isOL:Option (Option SV)→Bool
 |some (some (.ol _))=>true
 |_=>false
@[simp] noncomputable def Zzu(i:Nat)(fk fv:FE):FS:=fun δ=>(fv δ).bind fun p=>(frz p.1 p.2).bind fun q=>if SV.isOL (q.2[i]?)=true then(fk q.2).bind fun r=>(rdv r.1 r.2).bind fun kd=>(Zwj kd q.1 (r.2[i]?)).bind fun sv=>some (.nx (r.2.set i (some sv)))else none
@[simp] noncomputable def SV.ol?:RV→Option (List D)
 | .tmp (.ol ys)=>some ys
 |_=>none
@[simp] noncomputable def extF(i:Nat)(fe:FE):FS:=fun δ=>match δ[i]? with
 |some (some (.ol _))=>(fe δ).bind fun p=>(SV.ol? p.1).bind fun ys=>match p.2[i]? with
  |some (some (.ol xs))=>if xs.length+ys.length≤PySem.sizeLine then some (.nx (p.2.set i (some (.ol (xs++ys)))))else none
  |_=>none
 |_=>none
end
section
variable{X:Cx}{Z:Ent X.K}{a b c:Expr}{fa fb fc:FE}{pos:Pos}
theorem Zk4(ha:PE X a (Zb Z fa))(hb:PE X b (Zb Z fb)):PE X (.BinOp a .Mult b pos) (Zb Z (binF mulZ fa fb)):=Zms (Zrc.or Zpz) Zs7 ha hb
end
end DL
namespace DL
open PySem PySem.Spec PyProof.Rows L2
theorem Zm6(K:PySem.W.Frag):∀d:D,d.isExc=false→PySem.W.kitOne K (.type d.pyTy) (.type "bool")=some (d.pyTy=="bool" || ("bool"=="int" &&d.pyTy=="bool")):=by intro d h;cases d<;> first| (cases h;done)|with_unfolding_all rfl
end DL
namespace DL
open PySem PySem.Spec PyProof.Rows L2
variable{K:PySem.W.Frag}
section
variable{Z:Ent K}{H:Hp}{σ:L2.St}{Q:Bool→Hp→Prop}
@[simp] noncomputable def Zzv(f:FT):FT:=fun δ=>(f δ).bind fun p=>some (p.1,δ)
end
section
variable{X:Cx}{Z:Ent X.K}{a:Expr}{ft:FT}
end
end DL
namespace DL
open PySem PySem.Spec PyProof.Rows L2
variable{K:PySem.W.Frag}
noncomputable def repP(n:Nat)(k:Int):Prop:=-(2^63)≤k∧k<2^63∧n*k.toNat≤PySem.sizeLine
section
variable{Z:Ent K}{H:Hp}{σ:L2.St}{Q:VK}
open Classical in
noncomputable def repI(xs:List D):D→Option SV
 | .int k=>if repP xs.length k then some (.ol (List.replicate k.toNat xs).flatten)else none
 |_=>none
@[simp] theorem Zuj{xs:List D}{k:Int}(h:repP xs.length k):repI xs (.int k)=some (.ol (List.replicate k.toNat xs).flatten):=by
 unfold repI;dsimp only;rw[if_pos h]
@[simp] noncomputable def repF(fa fb:FE):FE:=fun δ=>(fa δ).bind fun p=>(SV.ol? p.1).bind fun xs=>(fb p.2).bind fun q=>(rdv q.1 q.2).bind fun d=>(repI xs d).bind fun sv=>some (.tmp sv,q.2)
end
section
variable{X:Cx}{Z:Ent X.K}{a b:Expr}{fa fb:FE}{pos:Pos}
end
end DL
namespace DL
open PySem PySem.Spec PyProof.Rows L2
variable{K:PySem.W.Frag}
section
variable{Z:Ent K}
@[simp] noncomputable def slT:D→Option Int→Option Int→Option SV
 | .tup xs,lo,hi=>if¬(HT.sIx xs.length 0 lo=0∧HT.sIx xs.length xs.length hi=xs.length)then some (.fz (.tup (cutD xs lo hi)))else none
 |_,_,_=>none
end
section
variable{X:Cx}{Z:Ent X.K}{a:Expr}{fa:FE}{pos:Pos}
end
end DL
namespace DL
open PySem L2
variable{K:PySem.W.Frag}
inductive RX where
 |v (rv:RV) (δ:DSt)|x (e:Exn) (δ:DSt)
inductive RL(α:Type)where
 |v (xs:List α) (δ:DSt)|x (e:Exn) (δ:DSt)
noncomputable abbrev FX:=DSt→Option RX
noncomputable abbrev FAX:=DSt→Option (RL RV)
noncomputable abbrev FDX:=DSt→Option (RL D)
noncomputable def XOk(Z:Ent K)(F:Hp)(σ:St)(e:Exn)(δ:DSt):Prop:=∀H' F' own' cls od,Same F F'→SR Z F' H' σ δ own'→Zhv K F' e cls od→Z.x cls od σ H'
noncomputable def Zwk(Z:Ent K)(f:FX):TE:=fun σ H Q=>∃F δ own r,SR Z F H σ δ own∧f δ=some r∧match r with
 | .v rv δ'=>∀v H' F' own',Same H H'→Same F F'→SR Z F' H' σ δ' own'→Zix Z F' H' σ own' rv v→Q v H'
 | .x e δ'=>XOk Z F σ e δ'
noncomputable def Zyb(Z:Ent K)(f:FAX):TA:=fun σ H Q=>∃F δ own r,SR Z F H σ δ own∧f δ=some r∧match r with
 | .v rvs δ'=>∀vs H' F' own',Same H H'→Same F F'→SR Z F' H' σ δ' own'→RVSs K F' σ rvs vs→Q vs H'
 | .x e δ'=>XOk Z F σ e δ'
noncomputable def Zyc(Z:Ent K)(f:FDX):TA:=fun σ H Q=>∃F δ own r,SR Z F H σ δ own∧f δ=some r∧match r with
 | .v ds δ'=>∀vs H' F' own',Same H H'→Same F F'→SR Z F' H' σ δ' own'→Reps K F' ds vs→Q vs H'
 | .x e δ'=>XOk Z F σ e δ'
@[simp] noncomputable def FX.val(f:FX):FE:=fun δ=>match f δ with
 |some (.v rv δ')=>some (rv,δ')
 |_=>none
section
variable{Z:Ent K}{H:Hp}{σ:St}{Q:VK}{E:Ends}
@[simp] noncomputable def Zzw(fe:FE):FX:=fun δ=>(fe δ).bind fun p=>some (.v p.1 p.2)
@[simp] noncomputable def Zwl:FAX:=fun δ=>some (.v [] δ)
@[simp] noncomputable def Zuk(fx:FX)(fa:FAX):FAX:=fun δ=>(fx δ).bind fun
 | .v rv δ1=>(fa δ1).bind fun
  | .v rvs δ2=>some (.v (rv::rvs) δ2)
  | .x e δ2=>some (.x e δ2)
 | .x e δ1=>some (.x e δ1)
@[simp] noncomputable def Zul:FDX:=fun δ=>some (.v [] δ)
@[simp] noncomputable def Zs8(fx:FX)(fd:FDX):FDX:=fun δ=>(fx δ).bind fun
 | .v rv δ1=>(frz rv δ1).bind fun q=>(fd q.2).bind fun
  | .v ds δ2=>some (.v (q.1::ds) δ2)
  | .x e δ2=>some (.x e δ2)
 | .x e δ1=>some (.x e δ1)
@[simp] noncomputable def tupX(fd:FDX):FX:=fun δ=>(fd δ).bind fun
 | .v ds δ1=>if ds.length≤PySem.sizeLine then some (.v (.tmp (.fz (.tup ds))) δ1)else none
 | .x e δ1=>some (.x e δ1)
@[simp] noncomputable def Zzx(g:List D→Option SV)(fa:FAX):FX:=fun δ=>(fa δ).bind fun
 | .v rvs δ1=>(Zbg rvs δ1).bind fun ds=>(g ds).bind fun sv=>some (.v (.tmp sv) δ1)
 | .x e δ1=>some (.x e δ1)
@[simp] noncomputable def binX(g:D→D→Option SV)(fa fb:FX):FX:=fun δ=>(fa δ).bind fun
 | .x e δ1=>some (.x e δ1)
 | .v r1 δ1=>(fb δ1).bind fun
  | .x e δ2=>some (.x e δ2)
  | .v r2 δ2=>(rdv r1 δ2).bind fun d1=>(rdv r2 δ2).bind fun d2=>(g d1 d2).bind fun sv=>some (.v (.tmp sv) δ2)
end
inductive XO where
 |v (sv:SV)|x (e:Exn)
noncomputable def spX(K:PySem.W.Frag)(n:Nat)(g:List D→Option XO):Sp:=fun vs H Q E=>∃F ds o,Same F H∧Reps K F ds vs∧ds.length=n∧g ds=some o∧match o with
 | .v sv=>∀v H' F' ns,Same H H'→Same F F'→Same F' H'→(∀(b:Addr) (o:HO),F' b=some o→F b=some o∨H b=none)→Shape K F' sv v ns→(adr ns).Nodup→(∀p∈ns,F' p.1=none∧H p.1=none∧H' p.1=some p.2)→Q v H'
 | .x e=>∀cls od H' F',Same H H'→Same F F'→Same F' H'→(∀(b:Addr) (o:HO),F' b=some o→F b=some o∨H b=none)→Zhv K F' e cls od→E cls od H'
@[simp] noncomputable def outX(f:FS)(n:Nat)(ds:List D):Option XO:=match f (Zfo n ds)with
 |some (.rt sv)=>some (.v sv)
 |some (.nx _)=>some (.v (.fz .non))
 |some (.ex e _)=>some (.x e)
 |_=>none
@[simp] noncomputable def valG(h:List D→Option XO)(ds:List D):Option SV:=match h ds with
 |some (.v sv)=>some sv
 |_=>none
noncomputable abbrev entX(H F:Hp)(E:XK):Ent K:=⟨H,F,fun cls od _ H'=>E cls od H'⟩
section
variable{Z:Ent K}{H:Hp}{σ:St}{Q:VK}{E:Ends}
@[simp] noncomputable def Zzy(n:Nat)(g:List D→Option XO)(fa:FAX):FX:=fun δ=>(fa δ).bind fun
 | .x e δ1=>some (.x e δ1)
 | .v rvs δ1=>(DL.frzAll rvs δ1).bind fun q=>if q.1.length=n then(g q.1).bind (fun
  | .v sv=>some (.v (.tmp sv) (if sv.scal then δ1 else q.2))
  | .x e=>some (.x e q.2))else none
@[simp] noncomputable def Zyd(g:List D→Option SV)(ds:List D):Option XO:=(g ds).bind fun sv=>some (.v sv)
@[simp] noncomputable def setX(i:Nat)(fx:FX):FS:=fun δ=>(fx δ).bind fun
 | .v rv δ1=>(stow i rv δ1).bind fun δ'=>some (.nx δ')
 | .x e δ1=>some (.ex e δ1)
@[simp] noncomputable def retX(fx:FX):FS:=fun δ=>(fx δ).bind fun
 | .v rv δ1=>(outF rv δ1).bind fun sv=>some (.rt sv)
 | .x e δ1=>some (.ex e δ1)
@[simp] noncomputable def Zzz(fx:FX):FS:=fun δ=>(fx δ).bind fun
 | .v _ δ1=>some (.nx δ1)
 | .x e δ1=>some (.ex e δ1)
@[simp] noncomputable def appX(i:Nat)(fx:FX):FS:=fun δ=>match fx δ with
 |some (.x e δ1)=>(match δ[i]? with
  |some (some (.ol _))=>some (.ex e δ1)
  |_=>none)
 |_=>appF i fx.val δ
@[simp] noncomputable def extX(i:Nat)(fx:FX):FS:=fun δ=>match fx δ with
 |some (.x e δ1)=>(match δ[i]? with
  |some (some (.ol _))=>some (.ex e δ1)
  |_=>none)
 |_=>extF i fx.val δ
@[simp] noncomputable def Zye(c:Str):FS:=fun δ=>some (.ex ⟨c,[],[]⟩ δ)
set_option genInjectivity false in
structure HX where
 x:Str
 np:Pos
 nm:Option (Str×Nat)
 b0:Stmt
 suite:List Stmt
 pos:Pos
 B:Addr
 yes:List Str
 no:List Str
 f:FS
set_option genInjectivity false in
structure HX.Sub(K:PySem.W.Frag)(h:HX):Prop where
 yes:∀c∈h.yes,∀C,Zgx K c C→PySem.W.mroIn K C (.ref h.B)=some true
 no:∀c∈h.no,∀C,Zgx K c C→PySem.W.mroIn K C (.ref h.B)=some false
noncomputable def HX.hd(Z:Ent K)(h:HX):Hd:=⟨h.x,h.np,h.nm,h.b0,h.suite,h.pos,h.B,Z0 Z h.f⟩
set_option genInjectivity false in
structure HF where
 i:Option Nat
 yes:List Str
 no:List Str
 f:FS
@[simp] noncomputable def HX.hf(h:HX):HF:=⟨h.nm.map (·.2),h.yes,h.no,h.f⟩
@[simp] noncomputable def Zs9(c:Str):List HF→Option HF
 | []=>none
 |h::r=>if c∈h.yes then some h else if c∈h.no then Zs9 c r else none
@[simp] noncomputable def Fl.but(i:Nat):Fl→Fl
 | .nx δ=>.nx (δ.set i none)
 | .bk δ=>.bk (δ.set i none)
 | .ct δ=>.ct (δ.set i none)
 | .ex e δ=>.ex e (δ.set i none)
 | .rt sv=>.rt sv
@[simp] noncomputable def Fl.isEx:Fl→Bool
 | .ex _ _=>true
 |_=>false
@[simp] noncomputable def HF.run(h:HF)(x:Exn)(δ:DSt):Option Fl:=match h.i with
 |none=>h.f δ
 |some i=>if i<δ.length then(h.f (δ.set i (some (.fz (.exc x.c x.ks x.vs))))).bind fun fl=>if fl.isEx=true then none else some (fl.but i)else none
@[simp] noncomputable def tryF(fb:FS)(hs:List HF):FS:=fun δ=>(fb δ).bind fun
 | .ex x δ1=>(Zs9 x.c hs).bind fun h=>h.run x δ1
 |fl=>some fl
noncomputable abbrev Ent.wish(Z:Ent K)(EX:EXT):Ent K:=⟨Z.h,Z.f,EX⟩
end
end DL
namespace DL
open PySem PySem.Spec PyProof.Rows L2
section
variable{X:Cx}{Z:Ent X.K}{a b c:Expr}{fa fb:FE}{fx fy:FX}{pos:Pos}
@[simp] noncomputable def isxD(yes no:List Str):D→Option SV
 | .exc c _ _=>if c∈yes then some (.fz (.bl true))else if c∈no then some (.fz (.bl false))else none
 |_=>none
noncomputable def Kn(K:PySem.W.Frag)(r:Addr→Bool→Prop)(yes no:List Str):Prop:=(∀c∈yes,∀C,Zgx K c C→ExcKit K C∧r C true)∧∀c∈no,∀C,Zgx K c C→ExcKit K C∧r C false
noncomputable def Zyf(Bs:List Addr):TA:=fun _ H R=>R (Bs.map V.ref) H
end
end DL
namespace DL
open PySem PySem.Spec PyProof.Rows L2
section
variable{X:Cx}{pins:List (Addr×Obj)}{σ:L2.St}{H:Hp}{s:Shared}
theorem Inv.trackO{a:Addr}{o:HO}(I:Inv X pins σ H s)(e0:X.s₀.heap.get? a=none)(eH:H a=none)(le:a≠X.env.locals)(ce:∀x c,X.env.cells.lookup x=some c→c≠a)(pe:∀p∈X.pn++pins,p.1≠a)(new:Zan X.prog X.w (upd H a o) s.heap a o):Inv X pins σ (upd H a o) s:=by
 refine⟨I.ok,I.os,I.bare,⟨I.base.keep,I.base.slot,fun b o q n hx=>?_,I.base.there,fun b xs q=>?_,fun b o u q=>?_,fun b ps q=>?_⟩,I.loc,I.cell,?_,fun x c ec=>?_,fun p hp=>?_,fun b u q=>?_,I.len⟩
 ·rw[Zl (fun z=>by rw[z,e0]at q;cases q)];exact I.base.free b o q n hx
 ·have:=I.base.tups b xs q
  rw[Zl (fun z=>by rw[z,eH]at this;cases this)];exact this
 ·have:=I.base.frzs b o u q
  rw[Zl (fun z=>by rw[z,eH]at this;cases this)];exact this
 ·obtain⟨m,this⟩:=I.base.tbls b ps q
  exact⟨m,by rw[Zl (fun z=>by rw[z,eH]at this;cases this)];exact this⟩
 ·rw[Zl (Ne.symm le)];exact I.free
 ·rw[Zl (ce x c ec)];exact I.freeC x c ec
 ·obtain⟨q,n,r⟩:=I.pin p hp
  exact⟨q,by rw[Zl (pe p hp)];exact n,r⟩
 ·by_cases hb:b=a
  ·subst hb
   rw[Zv]at q;cases q
   exact new
  ·rw[Zl hb]at q
   exact(I.hok b u q).stay (fun c v _ z=>z) (fun c z=>by rw[Zl (fun y=>by rw[y,eH]at z;cases z)];exact z) (fun c xs z=>by rw[Zl (fun y=>by rw[y,eH]at z;cases z)];exact z) fun c o z=>by rw[Zl (fun y=>by rw[y,eH]at z;cases z)];exact z
noncomputable def Zyg(trs:List (TE×TE)):TE:=fun σ H Q=>Zhs trs σ H fun ps H2=>∃kvs:List (Key×V),ps=kvs.map (fun kv=>(kV kv.1,kv.2))∧kvs.length≤15∧∀p ep,H2 p=none→Q (.ref p) (upd H2 p (.dK (Znu [] kvs) ep))
end
section
variable{K:PySem.W.Frag}{Z:Ent K}{σ:L2.St}{H:Hp}{Q:VK}
noncomputable def tPD(Z:Ent K)(l:List (Str×FE)):List (TE×TE):=l.map fun p=>(tC (.str p.1),Zb Z p.2)
@[simp] noncomputable def Zn9:List (Str×FE)→FD
 | []=>Zp
 |p::r=>Ze p.2 (Zn9 r)
@[simp] noncomputable def Zyh(l:List (Str×FE)):FE:=fun δ=>(Zn9 l δ).bind fun p=>if p.1.length=l.length then some (.tmp (.oK (l.map fun q=>.inr q.1) p.1),p.2)else none
@[simp] noncomputable def minD:List D→Option SV
 | [.int i,.int j]=>some (.fz (.int (if j<i then j else i)))
 |_=>none
end
section
variable{X:Cx}{Z:Ent X.K}{a b c:Expr}{fa fb fc:FE}{pos:Pos}
end
end DL
namespace DL
open PySem PySem.Spec PyProof.Rows L2
@[simp] noncomputable def Zk5(ss:List Str)(fd:FD):FD:=fun δ=>(fd δ).bind fun p=>some (ss.map D.str++p.1,p.2)
theorem Zp2{K:PySem.W.Frag}{Z:Ent K}{σ:L2.St}{H:Hp}{fd:FD}:∀(ss:List Str) {R:List V→Hp→Prop},Za6 Z (Zk5 ss fd) σ H R→Za6 Z fd σ H fun vs H'=>R (ss.map V.str++vs) H'
 |ss,R,h=>by
  obtain⟨F,δ,own,ds,δ',s,e,k⟩:=h
  obtain⟨⟨ds1,δ1⟩,e1,e2⟩:=Option.bind_eq_some_iff.mp e
  cases e2
  refine⟨F,δ,own,ds1,δ1,s,e1,fun vs H' F' own' a b c r=>k _ H' F' own' a b c ?_⟩
  exact Reps.append (strs_rep ss) r
where strs_rep {F:Hp}:∀ss:List Str,Reps K F (ss.map D.str) (ss.map V.str)
 | []=>.nil
 |x::r=>.cons (.str x) (strs_rep r)
section
variable{X:Cx}{Z:Ent X.K}{pos:Pos}
noncomputable abbrev cst(x:Str×Nat×Pos):Expr:=.Constant (.str x.1) x.2.1 x.2.2
theorem Zia{es:List Expr}{t:TA}(h:PA X es t):∀l:List (Str×Nat×Pos),PA X (l.map cst++es) fun σ H R=>t σ H fun vs H'=>R ((l.map fun x=>V.str x.1)++vs) H'
 | []=>h
 |x::r=>(Zci (e:=cst x) (es:=r.map cst++es) Zno (Zia h r) rfl).imp fun σ H R q=>q
theorem Zp3{es:List Expr}{fd:FD}(l:List (Str×Nat×Pos))(h:PA X es (Za6 Z fd)):PA X (l.map cst++es) (Za6 Z (Zk5 (l.map (·.1)) fd)):=
 (Zia h l).imp fun σ H R q=>by
  have:=Zp2 (l.map (·.1)) q
  rw[List.map_map]at this
  exact this
end
end DL
namespace DL
open PySem PySem.Spec PyProof.Rows L2
section
variable{K:PySem.W.Frag}
inductive RC where
 |v (δ:DSt)|x (e:Exn)
noncomputable def xX(K:PySem.W.Frag)(f:FX)(EX:EXT):TE:=fun σ H Q=>∃Z:Ent K,Z.x=EX∧Zwk Z f σ H Q
@[simp] noncomputable def Zk6(src:List BSrc)(k:Nat)(g:FG)(tt:FT)(te:FX):List D→DSt→Option RC
 | [],δ=>some (.v δ)
 |d::ds,δ=>(g.run d δ).bind fun δ1=>(tt δ1).bind fun p=>if p.1=true then(te p.2).bind (fun
  | .x e _=>some (.x e)
  | .v rv δ2=>(frz rv δ2).bind fun r=>match r.2[k]? with
   |some (some (.ol zs))=>if zs.length<PySem.sizeLine then Zk6 src k g tt te ds (Zcl src (r.2.set k (some (.ol (zs++[r.1])))))else none
   |_=>none)
  else Zk6 src k g tt te ds (Zcl src p.2)
@[simp] noncomputable def Zz0(src:List BSrc)(k:Nat)(fi:FD)(g:FG)(tt:FT)(te:FX):FX:=fun δ=>(fi δ).bind fun p=>(frzAll (caps src) p.2).bind fun c=>(Zk6 src k g tt te p.1 (bD src c.2)).bind fun
 | .x e=>some (.x e c.2)
 | .v δb=>match δb[k]? with
  |some (some (.ol ys))=>some (.v (.tmp (.ol ys)) c.2)
  |_=>none
end
section
variable{X:Cx}{Z:Ent X.K}{pos:Pos}
end
end DL
namespace L2
open PySem PySem.Spec PyProof.Rows
noncomputable def Zta{α:Type}(xs:List α)(lo hi st:Option Int):List α:=
 (sliceRange (sliceBounds lo hi st xs.length).1 (sliceBounds lo hi st xs.length).2.1 (sliceBounds lo hi st xs.length).2.2).filterMap (xs[·]?)
section
variable{X:Cx}{e st:Expr}{te:TE}{lo hi:Option Expr}{tl th ts:TO}{pos p2:Pos}
noncomputable def SlR3(X:Cx)(r:V→Option Int→Option Int→Option Int→Hp→VK→Prop):Prop:=
 ∀(pins:List (Addr×Obj)) (s:Shared) (σ:St) (H:Hp) (x:V) (v vl vu vs:Value) (lo hi st:Option Int) (sl:Addr) (Q:VK),Inv X pins σ H s→RelV x v→s.heap.IsSliceOf sl vl vu vs→IsPart vl lo→IsPart vu hi→IsPart vs st→r x lo hi st H Q→
  ∃T id,typeLookup (.type T) "__getitem__"=pure (some (.builtin id))∧s.TypeIs v T∧wpAny (model X.prog X.w) X.A (getItem v (.ref sl)) (EP X pins σ Q) X.xe s
noncomputable def tSl3(r:V→Option Int→Option Int→Option Int→Hp→VK→Prop)(te:TE)(tl th ts:TO):TE:=fun σ H Q=>te σ H fun x H1=>tl σ H1 fun l H2=>th σ H2 fun u H3=>ts σ H3 fun w H4=>r x l u w H4 Q
noncomputable def rSl3(K:PySem.W.Frag):V→Option Int→Option Int→Option Int→Hp→VK→Prop:=fun x lo hi st H Q=>∃a xs,x= .ref a∧SqL K H a xs∧st≠some 0∧∀p,H p=none→Q (.ref p) (upd H p (.lst (Zta xs lo hi st)))
end
end L2
namespace DL
open PySem PySem.Spec PyProof.Rows L2
@[simp] noncomputable def slF3(g:D→Option Int→Option Int→Option Int→Option SV)(fe:FE)(fl fh fs:FO):FE:=fun δ=>(fe δ).bind fun p=>(fl p.2).bind fun l=>(fh l.2).bind fun h=>(fs h.2).bind fun w=>(rdv p.1 w.2).bind fun d=>(g d l.1 h.1 w.1).bind fun sv=>some (.tmp sv,w.2)
section
variable{K:PySem.W.Frag}{Z:Ent K}{H:Hp}{σ:L2.St}{Q:VK}
noncomputable def Zyi(Z:Ent K)(r:V→Option Int→Option Int→Option Int→Hp→VK→Prop)(g:D→Option Int→Option Int→Option Int→Option SV):Prop:=
 ∀(F H:Hp) (σ:L2.St) (δ:DSt) (own:Nat→Zo) (x:V) (d:D) (lo hi st:Option Int) (sv:SV) (Q:VK),SR Z F H σ δ own→RepN K F H d x→g d lo hi st=some sv→Fin Z F H σ δ own sv Q→r x lo hi st H Q
@[simp] noncomputable def slD3:D→Option Int→Option Int→Option Int→Option SV
 | .lst xs,lo,hi,st=>if st≠some 0 then some (.ol (Zta xs lo hi st))else none
 |_,_,_,_=>none
end
end DL
namespace DL
section
variable{α:Type}{P:List α→Prop}
@[elab_as_elim] theorem of0(h:P [])(us:List α)(hl:us.length=0):P us:=by
 have:us=[]:=List.eq_nil_of_length_eq_zero hl
 rw[this];exact h
@[elab_as_elim] theorem of1(h:∀a,P [a])(us:List α)(hl:us.length=1):P us:=by
 obtain⟨a,e⟩:=List.length_eq_one_iff.mp hl
 rw[e];exact h a
theorem ofC{n:Nat}(h:∀a (us:List α),us.length=n→P (a::us))(us:List α)(hl:us.length=n+1):P us:=by
 cases us with
 |nil=>exact absurd hl (by simp)
 |cons a r=>exact h a r (by simpa using hl)
@[elab_as_elim] theorem of2(h:∀a b,P [a,b])(us:List α)(hl:us.length=2):P us:=ofC (fun a=>of1 (P:=fun us=>P (a::us)) (h a)) us hl
@[elab_as_elim] theorem of3(h:∀a b c,P [a,b,c])(us:List α)(hl:us.length=3):P us:=ofC (fun a=>of2 (P:=fun us=>P (a::us)) (h a)) us hl
@[elab_as_elim] theorem of4(h:∀a b c d,P [a,b,c,d])(us:List α)(hl:us.length=4):P us:=ofC (fun a=>of3 (P:=fun us=>P (a::us)) (h a)) us hl
@[elab_as_elim] theorem of5(h:∀a b c d e,P [a,b,c,d,e])(us:List α)(hl:us.length=5):P us:=ofC (fun a=>of4 (P:=fun us=>P (a::us)) (h a)) us hl
@[elab_as_elim] theorem of6(h:∀a b c d e f,P [a,b,c,d,e,f])(us:List α)(hl:us.length=6):P us:=ofC (fun a=>of5 (P:=fun us=>P (a::us)) (h a)) us hl
end
end DL
namespace L2
open PySem PySem.Spec PyProof.Rows
section
variable{prog:Program}{w:World}{A:Around}{E:Value→Shared→Prop}{s:Shared}{q d:Addr}{i n ep:Nat}{od:Obj}{es:Array DictEntry}
theorem Zm7{Q:Value→Shared→Prop}(hs:(d==sysModules)=false)(g:s.heap.get? d=some od)(x:od.ExactDict)(c:od.data= .dict es ep)
  (k:Q (.ref s.heap.objs.size) {s with heap:=s.heap.push {cls:=.type "dict_keyiterator",data:=.fields #[.ref d,.int 0 0,.int es.size 0,.int ep 0]}}):wpAny (model prog w) A (pyIter (.ref d)) Q E s:=by
 have T:s.TypeIs (.ref d) "dict":=⟨od,g,x.1⟩
 refine wpAny_pyIter_slot T PySem.F.slot_dict_iter (wpAny_call_entry PySem.F.slot_dict_iter T PySem.F.entry_dict_iter (show wpAny _ _ (Builtin.«dict.__iter__» _) _ _ _ from ?_) (PySem.F.args_dict_iter_1 _))
 unfold Builtin.«dict.__iter__» Builtin.Dict.dictSlotNone
 refine wpAny_bind (wpAny_bind (wpAny_notOrdered_dict T (show wpAny _ _ (pure (Value.ref d)) _ _ s from wpAny_pure ?_)))
 show wpAny _ _ (Builtin.Dict.showsAll d >>=_) _ _ s
 unfold Builtin.Dict.showsAll
 rw[if_neg (by rw[hs];decide)]
 refine wpAny_bind (wpAny_pure (wpAny_bind (wpAny_dictEntries g c (wpAny_bind (wpAny_dictEpoch g c (wpAny_bind (wpAny_newObj_type (wpAny_pure ⟨_,rfl,"dict_keyiterator",_,⟨_,Heap.get?_push_size _ rfl,rfl⟩,PySem.F.slot_dict_keyiterator_next.lookup,?_⟩))))))))
 simpa[rawInt]using k
theorem Zm8{e:DictEntry}{Q:Option Value→Shared→Prop}(t:s.heap.IsKeyIter q d i n ep)(g:s.heap.get? d=some od)(c:od.data= .dict es ep)(hn:es.size=n)(he:es[i]? =some e)
  (k:∀h',h'.IsKeyIter q d (i+1) n ep→Heap.SameBut q s.heap h'→Q (some e.key) {s with heap:=h'}):wpAny (model prog w) A (pyNext (.ref q)) Q E s:=by
 obtain⟨o,ho,hc,hd⟩:=id t
 have T:=t.typeIs
 unfold pyNext
 refine wpAny_bind (wpAny_attempt (wpAny_callSpecial?_slot (name:="__next__") T PySem.F.slot_dict_keyiterator_next (wpAny_call_entry PySem.F.slot_dict_keyiterator_next T PySem.F.entry_dict_keyiterator_next (wpAny_bind (wpAny_pure (wpAny_bind (wpAny_bind ?_)))) (PySem.F.args_dict_keyiterator_next_1 _))))
 first| (refine wpAny_bind (wpAny_typeNameOfWhole_keyiter T (wpAny_pure (wpAny_bind (wpAny_fieldsOf ho hd ?_)))))| (refine wpAny_bind (wpAny_typeNameOf_keyiter T (wpAny_pure (wpAny_bind (wpAny_fieldsOf ho hd ?_)))))
 have z0:Builtin.Dict_items.ownsTuple "dict_keyiterator"=false:=rfl
 rw[z0]
 simp only[Bool.false_eq_true,if_false]
 show wpAny _ _ (ite ((Value.ref d==Value.none)=true) _ _) _ _ s
 rw[if_neg (show¬(Value.ref d==Value.none)=true from fun z=>Bool.false_ne_true z)]
 refine wpAny_bind (wpAny_pure (wpAny_bind (wpAny_dictEntries g c ?_)))
 rw[if_neg (by rw[hn];simp)]
 refine wpAny_bind (wpAny_pure (wpAny_bind (wpAny_dictEpoch g c ?_)))
 rw[if_neg (by simp)]
 have hi:i<es.size:=(Array.getElem?_eq_some_iff.mp he).1
 refine wpAny_pure ?_
 simp only[show¬((i:Int)<0) by omega,if_false,Int.toNat_natCast,he]
 refine wpAny_bind ?_
 first| (refine wpAny_bind (wpAny_typeNameOfWhole_keyiter T (wpAny_pure (wpAny_bind (wpAny_isOneOf_keyiter T ?_)))))| (refine wpAny_bind (wpAny_typeNameOf_keyiter T (wpAny_pure (wpAny_bind (wpAny_isOneOf_keyiter T ?_)))))
 show wpAny _ _ (setField (.ref q) 1 (rawInt ((i:Int)+1)) >>=_) _ _ s
 refine wpAny_bind (wpAny_setField ho hd (by simp) ?_)
 have t':(s.heap.update q (Obj.mapFields (·.setIfInBounds 1 (rawInt ((i:Int)+1))))).IsKeyIter q d (i+1) n ep:=⟨_,Heap.get?_update_self _ ho (Obj.isFreed_of_fields (Obj.data_mapFields hd _)),(Obj.cls_mapFields ..).trans hc,(Obj.data_mapFields hd _).trans (by simp[rawInt])⟩
 refine wpAny_bind (wpAny_holding (wpAny_bind (wpAny_isOneOf_keyiter (s:={s with heap:=s.heap.update q (Obj.mapFields (·.setIfInBounds 1 (rawInt ((i:Int)+1))))}) t'.typeIs (show wpAny _ _ (pure e.key) _ _ _ from wpAny_pure (wpAny_pure ⟨_,rfl,wpAny_pure (k _ t' (Heap.SameBut.update ..))⟩)))))
theorem Zm9{Q:Option Value→Shared→Prop}(hh:A.handled=none)(t:s.heap.IsKeyIter q d i n ep)(g:s.heap.get? d=some od)(c:od.data= .dict es ep)(hn:es.size=n)(hi:n≤i)
  (k:∀h',Heap.ExtBut q s.heap h'→Q none {s with heap:=h'}):wpAny (model prog w) A (pyNext (.ref q)) Q E s:=by
 obtain⟨o,ho,hc,hd⟩:=id t
 have T:=t.typeIs
 unfold pyNext
 refine wpAny_bind (wpAny_attempt (wpAny_callSpecial?_slot (name:="__next__") T PySem.F.slot_dict_keyiterator_next (wpAny_call_entry PySem.F.slot_dict_keyiterator_next T PySem.F.entry_dict_keyiterator_next (wpAny_bind (wpAny_pure (wpAny_bind (wpAny_bind ?_)))) (PySem.F.args_dict_keyiterator_next_1 _))))
 first| (refine wpAny_bind (wpAny_typeNameOfWhole_keyiter T (wpAny_pure (wpAny_bind (wpAny_fieldsOf ho hd ?_)))))| (refine wpAny_bind (wpAny_typeNameOf_keyiter T (wpAny_pure (wpAny_bind (wpAny_fieldsOf ho hd ?_)))))
 have z0:Builtin.Dict_items.ownsTuple "dict_keyiterator"=false:=rfl
 rw[z0]
 simp only[Bool.false_eq_true,if_false]
 show wpAny _ _ (ite ((Value.ref d==Value.none)=true) _ _) _ _ s
 rw[if_neg (show¬(Value.ref d==Value.none)=true from fun z=>Bool.false_ne_true z)]
 refine wpAny_bind (wpAny_pure (wpAny_bind (wpAny_dictEntries g c ?_)))
 rw[if_neg (by rw[hn];simp)]
 refine wpAny_bind (wpAny_pure (wpAny_bind (wpAny_dictEpoch g c ?_)))
 rw[if_neg (by simp)]
 have he:es[i]? =none:=Array.getElem?_eq_none (by omega)
 refine wpAny_pure ?_
 simp only[show¬((i:Int)<0) by omega,if_false,Int.toNat_natCast,he]
 refine wpAny_bind ?_
 first| (refine wpAny_bind (wpAny_typeNameOfWhole_keyiter T (wpAny_pure ?_)))| (refine wpAny_bind (wpAny_typeNameOf_keyiter T (wpAny_pure ?_)))
 show wpAny _ _ (setField (.ref q) 0 Value.none >>=_) _ _ s
 refine wpAny_bind (wpAny_setField ho hd (by simp) (show wpAny _ _ (newExc (.type "StopIteration") [] >>=_) _ _ _ from wpAny_bind ?_))
 simp only[newExc,newTuple]
 refine wpAny_bind (wpAny_newObj_type (wpAny_bind (m:=firstArgMember _ _) (wpAny_of_eq (a:=Value.none) (by first|rfl| (simp only[firstArgMember];rfl)) (wpAny_newObj_type ?_ (by size_fits)))) (by size_fits))
 simp only[raiseNew]
 refine wpAny_bind (wpAny_handled ?_)
 rw[show A.in1.handled=Option.none from hh]
 refine wpAny_bind (wpAny_pure (wpAny_throw ?_))
 refine wpAny_bind (wpAny_isInstance (T:="StopIteration") (b:=true) (by exact⟨_,Heap.get?_push_size _ rfl,rfl⟩) isSubtype_stop ?_)
 exact wpAny_pure (k _ (((Heap.SameBut.update ..).extBut.push _).push _))
end
noncomputable def Itk(a:Addr)(n ep:Nat):It:=
 ⟨fun i H=>∃kvs,H a=some (.dK kvs ep)∧kvs.length=n∧i<n,fun i H x H'=>H'=H∧∃kvs kv,H a=some (.dK kvs ep)∧kvs[i]? =some kv∧x=kV kv.1,fun i H=>∃kvs,H a=some (.dK kvs ep)∧kvs.length=n∧n≤i⟩
noncomputable def Itd(a:Addr)(n ep:Nat):It:=
 ⟨fun i H=>∃kvs bs,H a=some (.dT kvs ep bs)∧kvs.length=n∧i<n,fun i H x H'=>H'=H∧∃kvs bs b,H a=some (.dT kvs ep bs)∧bs[i]? =some b∧x= .ref b,fun i H=>∃kvs bs,H a=some (.dT kvs ep bs)∧kvs.length=n∧n≤i⟩
theorem Zf4{q d:Addr}{i n ep:Nat}{h h':Heap}(t:h.IsKeyIter q d i n ep)(k:∀o,h.get? q=some o→h'.get? q=some o):h'.IsKeyIter q d i n ep:=let⟨o,e,r⟩:=t;⟨o,k o e,r⟩
section
variable{X:Cx}{tg:Expr}
noncomputable def iDic(tl:TE):TI:=fun σ H R=>tl σ H fun x H1=>(∃a kvs ep,x= .ref a∧H1 a=some (.dK kvs ep)∧R (Itk a kvs.length ep) H1)∨(∃a kvs ep bs,x= .ref a∧H1 a=some (.dT kvs ep bs)∧R (Itd a kvs.length ep) H1)
end
end L2
namespace DL
open PySem PySem.Spec PyProof.Rows L2
variable{K:PySem.W.Frag}
@[simp] noncomputable def keyD:Key→D
 | .inl i=>.int i
 | .inr x=>.str x
theorem Zna{F:Hp}(k:Key):Rep K F (keyD k) (kV k):=by
 cases k with
 |inl i=>exact .int i
 |inr x=>exact .str x
theorem Zf5{F:Hp}:∀k:List Key,Reps K F (k.map keyD) (k.map kV)
 | []=>.nil
 |k::r=>.cons (Zna k) (Zf5 r)
section
variable{Z:Ent K}{H:Hp}{σ:L2.St}
@[simp] noncomputable def dicI(fe:FE):FD:=fun δ=>(fe δ).bind fun p=>(frz p.1 p.2).bind fun q=>match q.1 with
 | .dK ks _=>some (ks.map keyD,q.2)
 | .dT ks _=>some (ks.map fun k=>D.tup (k.map keyD),q.2)
 |_=>none
end
end DL
namespace DL
open PySem PySem.Spec PyProof.Rows L2
variable{K:PySem.W.Frag}
@[simp] noncomputable def inW(d1 d2:D):Option SV:=match d2.seq? with
 |some xs=>if d1.isFlat=true∧xs.all D.isFlat=true then some (.fz (.bl (inFl d1 xs)))else none
 |none=>inD d1 d2
@[simp] noncomputable def Zyj(d1 d2:D):Option SV:=match d2.seq? with
 |some xs=>if d1.isFlat=true∧xs.all D.isFlat=true then some (.fz (.bl (!inFl d1 xs)))else none
 |none=>Zn2 d1 d2
section
variable{Z:Ent K}
end
section
variable{X:Cx}{Z:Ent X.K}{a b:Expr}{fa fb:FE}{pos:Pos}
end
end DL
namespace L2
open PySem PySem.Spec PyProof.Rows
section
variable{prog:Program}{w:World}{A:Around}{E:Value→Shared→Prop}{s:Shared}{a b:Addr}{xs ys:List (List Key×Addr×Value)}
end
section
variable{X:Cx}
noncomputable def rEqT:R2:=fun x y H Q=>∃a b kvs,x= .ref a∧y= .ref b∧HTt H a kvs∧HTt H b kvs∧(∀p∈kvs,Z6 p.2=true)∧Q (.bl true) H
end
end L2
namespace DL
open PySem PySem.Spec PyProof.Rows L2
variable{K:PySem.W.Frag}
noncomputable def Zwm(ks ks':List (List Key))(vs vs':List D):Bool:=@decide (ks=ks'∧vs=vs'∧vs.all D.isFlat=true) (Classical.propDecidable _)
@[simp] noncomputable def eqTD(d1 d2:D):Option SV:=match d1,d2 with
 | .dT ks vs,.dT ks' vs'=>if Zwm ks ks' vs vs'=true then some (.fz (.bl true))else none
 |_,_=>none
section
variable{Z:Ent K}
end
section
variable{X:Cx}{Z:Ent X.K}{a b:Expr}{fa fb:FE}{pos:Pos}
end
end DL
namespace DL
open PySem PySem.Spec PyProof.Rows L2
end DL
namespace DL
open PySem PySem.Spec PyProof.Rows L2
variable{K:PySem.W.Frag}
@[simp] noncomputable def Zk7(src:List BSrc)(k:Nat)(g:FG)(tt:FT)(te:FE):List D→DSt→Option DSt
 | [],δ=>some δ
 |d::ds,δ=>(g.run d δ).bind fun δ1=>(tt δ1).bind fun p=>if p.1=true then(te p.2).bind fun q=>match q.1,q.2[k]? with
   | .tmp (.ol xs),some (some (.oL none zs))=>if zs.length<PySem.sizeLine then Zk7 src k g tt te ds (Zcl src (q.2.set k (some (.oL none (zs++[xs])))))else none
   |_,_=>none
  else Zk7 src k g tt te ds (Zcl src p.2)
@[simp] noncomputable def Zyk(src:List BSrc)(k:Nat)(fi:FD)(g:FG)(tt:FT)(te:FE):FE:=fun δ=>(fi δ).bind fun p=>(frzAll (caps src) p.2).bind fun c=>(Zk7 src k g tt te p.1 ((bD src c.2).set k (some (.oL none [])))).bind fun δb=>match δb[k]? with
 |some (some (.oL none ys))=>some (.tmp (.oL none ys),c.2)
 |_=>none
section
variable{Z:Ent K}{H:Hp}{σ:L2.St}{Q:VK}{E:Ends}
noncomputable def Ztb(i p q:Nat):FE:=fun δ=>match δ[i]?,δ[p]?,δ[q]? with
 |some (some (.oL none xss)),some (some (.fz (.int n))),some (some (.fz (.lst xs)))=>if 0≤n∧n.toNat≤xss.length∧xss.length+1≤PySem.sizeLine then some (.tmp (.oL none (xss.take n.toNat++[xs]++xss.drop n.toNat)),δ.set i none)else none
 |_,_,_=>none
@[simp] theorem Zum{i p q:Nat}{δ:DSt}{xss:List (List D)}{n:Nat}{xs:List D}(hi:δ[i]? =some (some (.oL none xss)))(hp:δ[p]? =some (some (.fz (.int (n:Nat)))))(hq:δ[q]? =some (some (.fz (.lst xs))))(hn:n≤xss.length)(hz:xss.length+1≤PySem.sizeLine):
  Ztb i p q δ=some (.tmp (.oL none (xss.take n++[xs]++xss.drop n)),δ.set i none):=by
 unfold Ztb
 rw[hi,hp,hq]
 dsimp only
 rw[if_pos ⟨by omega,by omega,hz⟩,Int.toNat_natCast]
noncomputable abbrev rLst(K:PySem.W.Frag):List V→Hp→VK→Prop:=fun xs H Q=>∃p ys,xs=[V.ref p]∧(SqL K H p ys∨SqT K H p ys)∧∀l,H l=none→Q (.ref l) (upd H l (.lst ys))
@[simp] noncomputable def apT(c:Str)(n:Nat)(xss:List (List D)):List (List D):=(xss.take n).map (· ++[.str c])++xss.drop n
noncomputable def Zk8(i j:Nat)(c:Str):FS:=fun δ=>match δ[i]? with
 |some (some (.oL none xss))=>if i≠j∧j<δ.length∧(∀xs∈xss,xs.length<PySem.sizeLine)then some (.nx ((δ.set j none).set i (some (.oL none (xss.map (· ++[.str c]))))))else none
 |_=>none
@[simp] theorem Zqn{i j:Nat}{c:Str}{δ:DSt}{xss:List (List D)}(hi:δ[i]? =some (some (.oL none xss)))(hij:i≠j)(hj:j<δ.length)(hz:∀xs∈xss,xs.length<PySem.sizeLine):Zk8 i j c δ=some (.nx ((δ.set j none).set i (some (.oL none (xss.map (· ++[.str c])))))):=by
 unfold Zk8
 rw[hi]
 dsimp only
 rw[if_pos ⟨hij,hj,hz⟩]
noncomputable def Zk9(i:Nat):FS:=fun δ=>match δ[i]? with
 |some (some (.oL none _))=>some (.nx (δ.set i (some (.ol []))))
 |_=>none
@[simp] theorem Zqo{i:Nat}{δ:DSt}{xss:List (List D)}(hi:δ[i]? =some (some (.oL none xss))):Zk9 i δ=some (.nx (δ.set i (some (.ol [])))):=by unfold Zk9;rw[hi]
end
end DL
namespace DL
open PySem PySem.Spec PyProof.Rows L2
section
variable{X:Cx}{Z:Ent X.K}{a b c:Expr}{fa fb fc:FE}{pos:Pos}
end
end DL
namespace DL
open PySem PySem.Spec PyProof.Rows L2
variable{K:PySem.W.Frag}
noncomputable def Zwn(K:PySem.W.Frag)(C:Addr)(f:Str):Sp:=fun vs H Q _=>∃e p ys,vs=[.ref e,.ref p]∧H e=some (.ext (Zcx e C none))∧(SqL K H p ys∨SqT K H p ys)∧
 ∀l,H l=none→∀dx,upd H l (.lst ys) dx=none→Q .non (upd (upd (upd H l (.lst ys)) dx (.xd [(f,.ref l)])) e (.ext (Zcx e C (some dx))))
noncomputable def Zwo(C:Addr)(f:Str):Sp:=fun vs H Q _=>∃e v,vs=[.ref e,v]∧H e=some (.ext (Zcx e C none))∧
 ∀dx,H dx=none→Q .non (upd (upd H dx (.xd [(f,v)])) e (.ext (Zcx e C (some dx))))
section
variable{Z:Ent K}{H:Hp}{σ:L2.St}{E:Ends}{Q:VK}
@[simp] noncomputable def Zyl(c f:Str)(fe:FE):FS:=fun δ=>(fe δ).bind fun p=>(frz p.1 p.2).bind fun q=>match q.1 with
 | .lst ds=>some (.ex ⟨c,[f],[.lst ds]⟩ q.2)
 |_=>none
@[simp] noncomputable def Zym(c f:Str)(fe:FE):FS:=fun δ=>(fe δ).bind fun p=>(frz p.1 p.2).bind fun q=>some (.ex ⟨c,[f],[q.1]⟩ q.2)
@[simp] noncomputable def Zz1(cs:List Str)(f:Str):D→Option SV
 | .exc c ks vs=>if c∈cs then((ks.zip vs).lookup f).bind fun d=>some (.fz d)else none
 |_=>none
end
section
variable{X:Cx}{Z:Ent X.K}{a b c:Expr}{fa fb fc:FE}{pos:Pos}
end
end DL
namespace DL
open PySem PySem.Spec PyProof.Rows L2
variable{K:PySem.W.Frag}
theorem Zd7(n:Nat):∀xs ys:List Str,xs.length=ys.length→Zdh (eqN (n+1)) (xs.map D.str) (ys.map D.str)=some (decide (xs=ys))
 | [],[],_=>rfl
 | [],_::_,h=>by simp at h
 |_::_,[],h=>by simp at h
 |x::xs,y::ys,h=>by
  have ih:=Zd7 n xs ys (by simpa using h)
  show(eqN (n+1) (.str x) (.str y)).bind (fun b=>(Zdh (eqN (n+1)) (xs.map D.str) (ys.map D.str)).bind fun c=>some (b&&c))=_
  have e:eqN (n+1) (.str x) (.str y)=some (decide (x=y)):=by simp
  rw[ih,e]
  by_cases h1:x=y<;> by_cases h2:xs=ys<;> simp[h1,h2]
theorem Zf6(n:Nat):∀xs ys:List Str,∃b,Zdh (eqN (n+1)) (xs.map D.str) (ys.map D.str)=some b
 | [],_=>⟨_,rfl⟩
 |_::_,[]=>⟨_,rfl⟩
 |x::xs,y::ys=>by
  obtain⟨b,ih⟩:=Zf6 n xs ys
  have e:eqN (n+1) (.str x) (.str y)=some (decide (x=y)):=by simp
  refine⟨decide (x=y)&&b,?_⟩
  show(eqN (n+1) (.str x) (.str y)).bind (fun b=>(Zdh (eqN (n+1)) (xs.map D.str) (ys.map D.str)).bind fun c=>some (b&&c))=_
  rw[ih,e];rfl
theorem Znb(n:Nat)(xs ys:List Str):eqN (n+2) (.tup (xs.map D.str)) (.tup (ys.map D.str))=some (decide (xs=ys)):=by
 show(Zdh (eqN (n+1)) (xs.map D.str) (ys.map D.str)).bind (fun b=>some (b&&decide ((xs.map D.str).length=(ys.map D.str).length)))=_
 rw[List.length_map,List.length_map]
 by_cases h:xs.length=ys.length
 ·rw[Zd7 n xs ys h];simp[h]
 ·obtain⟨b,e⟩:=Zf6 n xs ys
  have:xs≠ys:=fun z=>h (by rw[z])
  rw[e];simp[h,this]
theorem Zeq{F:Hp}:∀xs:List Str,Reps K F (xs.map D.str) (xs.map V.str)
 | []=>.nil
 |x::xs=>.cons (.str x) (Zeq xs)
theorem Zib:∀{xs ys:List Str},xs.map V.str=ys.map V.str→xs=ys
 | [],[],_=>rfl
 | [],_::_,h=>by simp at h
 |_::_,[],h=>by simp at h
 |x::xs,y::ys,h=>by
  simp only[List.map_cons,List.cons.injEq]at h
  obtain⟨h1,h2⟩:=h
  cases h1
  rw[Zib h2]
noncomputable abbrev Zf7(H:Hp)(bs:List Addr)(xss:List (List Str)):Prop:=Paired (fun(b:Addr) (xs:List Str)=>H b=some (.tup (xs.map V.str))) bs xss
open Classical in
noncomputable def eqT(H:Hp)(ss:List Str):Value→Bool:=fun w=>decide (∃b,w= .ref b∧H b=some (.tup (ss.map V.str)))
theorem Zla{H:Hp}{ss xs:List Str}{b:Addr}(h:H b=some (.tup (xs.map V.str))):eqT H ss (.ref b)=decide (xs=ss):=by
 unfold eqT
 by_cases e:xs=ss
 ·subst e;simp;exact h
 ·have:¬∃b',Value.ref b= .ref b'∧H b'=some (.tup (ss.map V.str)):=fun⟨b',z,q⟩=>by
   cases z
   rw[h]at q
   exact e (Zib (HO.tup.inj (Option.some.inj q)))
  rw[decide_eq_false e];exact @decide_eq_false _ (Classical.propDecidable _) this
section
variable{X:Cx}{pins:List (Addr×Obj)}{σ:L2.St}{H:Hp}{s:Shared}
theorem Zf8(I:Inv X pins σ H s){A:Around}(hu:A.units+48<cLine){b:Addr}{ss:List Str}(hb:H b=some (.tup (ss.map V.str))):∀{bs:List Addr} {xss:List (List Str)},Zf7 H bs xss→∀u∈bs.map Value.ref,SeqAt.EqAt A s u (.ref b) (eqT H ss u)
 |_,_,.nil,u,hm=>nomatch hm
 |c::bs,xs::xss,.cons h t,u,hm=>by
  rw[List.map_cons]at hm
  rcases List.mem_cons.mp hm with z|z
  ·subst z
   rw[Zla h]
   exact Zn1 I (Same.refl H) 48 A (.tup (xs.map D.str)) (.tup (ss.map D.str)) _ (.ref c) (.ref b) _ _ hu (.tup h (Zeq xs)) rfl (.tup hb (Zeq ss)) rfl (Znb 46 xs ss)
  ·exact Zf8 I hu hb t u z
theorem Zlb{ss:List Str}:∀{bs:List Addr} {xss:List (List Str)},Zf7 H bs xss→(bs.map Value.ref).any (eqT H ss)=xss.any fun xs=>decide (xs=ss)
 |_,_,.nil=>rfl
 |c::bs,xs::xss,.cons h t=>by rw[List.map_cons,List.any_cons,List.any_cons,Zla h,Zlb t]
noncomputable def rInP(K:PySem.W.Frag)(neg:Bool):R2:=fun x y H Q=>∃b ss a bs xss,x= .ref b∧H b=some (.tup (ss.map V.str))∧y= .ref a∧SqL K H a (bs.map V.ref)∧Zf7 H bs xss∧Q (.bl (if neg then !(xss.any fun xs=>decide (xs=ss))else xss.any fun xs=>decide (xs=ss))) H
theorem Ztc(hu:X.A.units+64<cLine):OpR X (compareOp .In) (rInP X.K false):=by
 intro pins s σ H x y v u Q I rx ry h
 obtain⟨b,ss,a,bs,xss,rfl,hb,rfl,hq,ht,q⟩:=h
 cases rx
 cases ry
 obtain⟨its,r,pl,hz⟩:=I.list hq
 have ei:=Zj7 r
 subst ei
 refine SeqAt.in_listAt (eqT H ss) pl.isList (fun w hw=>Zf8 I (by have:X.A.in1.units=X.A.units+1:=rfl;omega) hb ht w (by simpa using hw)) ⟨.bl _,H,I,rfl,?_⟩
 rw[show(bs.map Value.ref).toArray.any (eqT H ss)=(bs.map Value.ref).any (eqT H ss) by simp,Zlb ht]
 exact q
noncomputable def Zwp(K:PySem.W.Frag):V→List V→Hp→VK→Prop:=fun x xs H Q=>∃b ss a bs xss j,xs=[.ref b]∧H b=some (.tup (ss.map V.str))∧x= .ref a∧SqL K H a (bs.map V.ref)∧Zf7 H bs xss∧(xss.findIdx? fun xs=>decide (xs=ss))=some j∧Q (.int (j:Nat)) H
end
@[simp] noncomputable def tl?:List D→Option (List (List Str))
 | []=>some []
 | .tup ds::r=>(strs? ds).bind fun x=>(tl? r).bind fun t=>some (x::t)
 |_=>none
@[simp] noncomputable def inP:D→D→Option SV
 | .tup a,.lst xs=>(strs? a).bind fun ss=>(tl? xs).bind fun xss=>some (.fz (.bl (xss.any fun x=>decide (x=ss))))
 |_,_=>none
@[simp] noncomputable def Zyn:D→D→Option SV
 | .tup a,.lst xs=>(strs? a).bind fun ss=>(tl? xs).bind fun xss=>some (.fz (.bl (!(xss.any fun x=>decide (x=ss)))))
 |_,_=>none
@[simp] noncomputable def Zyo:List D→Option SV
 | [.lst xs,.tup a]=>(strs? a).bind fun ss=>(tl? xs).bind fun xss=>(xss.findIdx? fun x=>decide (x=ss)).bind fun j=>some (.fz (.int (j:Nat)))
 |_=>none
theorem Ztd{F:Hp}:∀{ds:List D} {xss:List (List Str)} {vs:List V},tl? ds=some xss→Reps K F ds vs→∃bs,vs=bs.map V.ref∧Zf7 F bs xss
 | [],_,_,e,.nil=>by cases e;exact⟨[],rfl,.nil⟩
 |d::r,xss,_,e,.cons h t=>by
  unfold tl? at e
  split at e
  ·rename_i e0;cases e0
  ·rename_i ds r' e0
   cases e0
   obtain⟨x,e1,e⟩:=Option.bind_eq_some_iff.mp e
   obtain⟨xt,e2,e⟩:=Option.bind_eq_some_iff.mp e
   cases e
   obtain⟨bs,e3,p⟩:=Ztd e2 t
   cases h with
   |tup hh rr=>
    rw[Zg3 e1 rr]at hh
    exact⟨_::bs,by rw[e3];rfl,.cons hh p⟩
  ·cases e
section
variable{Z:Ent K}
theorem Zwq:Za0 Z (rInP K false) inP:=by
 intro F H σ δ own x y d1 d2 sv Q s r1 r2 e k
 unfold inP at e
 split at e
 ·obtain⟨ss,e1,e⟩:=Option.bind_eq_some_iff.mp e
  obtain⟨xss,e2,e⟩:=Option.bind_eq_some_iff.mp e
  cases e
  obtain⟨b,vs,rfl,hb,rb⟩:=r1.tupF
  obtain⟨a,us,rfl,hq,ru⟩:=r2.lst s.le
  obtain⟨bs,rfl,tb⟩:=Ztd e2 ru
  rw[Zg3 e1 rb]at hb
  exact⟨b,ss,a,bs,xss,rfl,s.le _ _ hb,rfl,hq,Paired.mapP tb fun _ _ z=>s.le _ _ z,k.fz s (.bl _)⟩
 ·cases e
end
section
variable{X:Cx}{Z:Ent X.K}{a b c:Expr}{fa fb fc:FE}{pos:Pos}
theorem Zwr(hv:X.A.units+64<cLine)(ha:PE X a (Zb Z fa))(hb:PE X b (Zb Z fb))(hm:behindInMarks .In b=false:=by rfl):PT X (.Compare a [.In] [b] pos) (Z1 Z (Z9 (binF inP fa fb))):=Zft (Ztc hv) Zwq ha hb hm
end
end DL
namespace DL
open PySem PySem.Spec PyProof.Rows L2
variable{K:PySem.W.Frag}
section
variable{Z:Ent K}{H:Hp}{σ:L2.St}{Q:VK}
@[simp] noncomputable def Zz2(k0:Str)(f0:FE)(j:Nat)(f1:FE):FE:=fun δ=>match δ[j]? with
 |some (some (.fz (.str x)))=>(Ze f0 (Ze f1 Zp) δ).bind fun p=>match p.1 with
  | [v0,v1]=>if k0=x then none else some (.tmp (.oK [.inr k0,.inr x] [v0,v1]),p.2)
  |_=>none
 |_=>none
end
section
variable{X:Cx}{Z:Ent X.K}{a b c:Expr}{fa fb fc:FE}{pos:Pos}
end
end DL
namespace L2
open PySem PySem.Spec PyProof.Rows
section
variable{X:Cx}
noncomputable def Zws(K:PySem.W.Frag):V→List V→Hp→VK→Prop:=fun x xs H Q=>∃p ys y,x= .ref p∧xs=[y]∧SqL K H p ys∧Z6 y=true∧ys.all Z6=true∧Q (.int ((ys.countP fun z=>eqV z y):Nat)) H
noncomputable def Zyp:V→List V→Hp→VK→Prop:=fun x xs H Q=>∃a b i,x= .str a∧xs=[.str b,.int i]∧Q (.int (Txt.find3 a b i)) H
end
end L2
namespace DL
open PySem PySem.Spec PyProof.Rows L2
variable{K:PySem.W.Frag}
section
variable{Z:Ent K}{H:Hp}{σ:L2.St}{Q:VK}{E:Ends}
@[simp] noncomputable def Zyq:List D→Option SV
 | [.lst xs,x]=>if x.isFlat=true∧xs.all D.isFlat=true then some (.fz (.int ((xs.countP fun y=>eqFl y x):Nat)))else none
 |_=>none
@[simp] noncomputable def Zyr:List D→Option SV
 | [.str a,.str b,.int i]=>some (.fz (.int (Txt.find3 a b i)))
 |_=>none
@[simp] noncomputable def augF(i:Nat)(j:Int):FS:=fun δ=>match δ[i]? with
 |some (some (.fz (.int x)))=>some (.nx (δ.set i (some (.fz (.int (x+j))))))
 |_=>none
@[simp] noncomputable def Zz3:FE:=fun δ=>some (.tmp (.oL none [[]]),δ)
noncomputable def Zte(i:Nat):FS:=fun δ=>match δ[i]? with
 |some (some (.oL p xss))=>if xss.length<PySem.sizeLine then some (.nx (δ.set i (some (.oL p (xss++[[]])))))else none
 |_=>none
@[simp] theorem Zun{i:Nat}{δ:DSt}{p:Option Addr}{xss:List (List D)}(hi:δ[i]? =some (some (.oL p xss)))(hz:xss.length<PySem.sizeLine):Zte i δ=some (.nx (δ.set i (some (.oL p (xss++[[]]))))):=by
 unfold Zte;rw[hi];exact if_pos hz
noncomputable abbrev tTop(K:PySem.W.Frag)(i:Nat):TE:=tOp (rIxL K) (tVar i) (tC (.int (-1)))
noncomputable def Zuo(i:Nat)(fe:FE):FS:=fun δ=>match δ[i]? with
 |some (some (.oL _ xss0))=>if xss0.length=0 then none else(fe δ).bind fun q=>(frz q.1 q.2).bind fun r=>match r.2[i]? with
  |some (some (.oL p xss))=>(xss[xss.length- 1]?).bind fun xs=>if xs.length<PySem.sizeLine then some (.nx (r.2.set i (some (.oL p (xss.set (xss.length- 1) (xs++[r.1]))))))else none
  |_=>none
 |_=>none
end
end DL
namespace DL
open PySem PySem.Spec PyProof.Rows L2
variable{K:PySem.W.Frag}
section
variable{Z:Ent K}{H:Hp}{σ:L2.St}{Q:VK}{E:Ends}
noncomputable def Ztf(i:Nat):FE:=fun δ=>match δ[i]? with
 |some (some (.oL _ xss))=>some (.tmp (.fz (.int (xss.length:Nat))),δ)
 |_=>none
@[simp] theorem Zup{i:Nat}{δ:DSt}{p:Option Addr}{xss:List (List D)}(hi:δ[i]? =some (some (.oL p xss))):Ztf i δ=some (.tmp (.fz (.int (xss.length:Nat))),δ):=by unfold Ztf;rw[hi]
noncomputable abbrev Zz4(K:PySem.W.Frag):List V→Hp→VK→Prop:=fun xs H Q=>∃p ys,xs=[V.ref p]∧(SqL K H p ys∨SqT K H p ys)∧Q (.int ys.length) H
noncomputable def Zwt(i:Nat):FE:=fun δ=>match δ[i]? with
 |some (some (.oL _ xss))=>(xss[xss.length- 1]?).bind fun xs=>some (.tmp (.fz (.int (xs.length:Nat))),δ)
 |_=>none
noncomputable def Zwu(i:Nat):FE:=fun δ=>match δ[i]? with
 |some (some (.oL _ xss))=>(xss[xss.length- 1]?).bind fun xs=>(xs[xs.length- 1]?).bind fun d=>some (.tmp (.fz d),δ)
 |_=>none
noncomputable def Zic(i:Nat):FE:=fun δ=>match δ[i]? with
 |some (some (.oL _ (xs::_)))=>some (.tmp (.fz (.tup xs)),δ)
 |_=>none
@[simp] theorem Zp4{i:Nat}{δ:DSt}{p:Option Addr}{xss:List (List D)}{xs:List D}(hi:δ[i]? =some (some (.oL p (xs::xss)))):Zic i δ=some (.tmp (.fz (.tup xs)),δ):=by unfold Zic;rw[hi]
noncomputable abbrev Zz5(K:PySem.W.Frag):List V→Hp→VK→Prop:=fun xs H Q=>∃p ys,xs=[V.ref p]∧((SqL K H p ys∧∀l,H l=none→Q (.ref l) (upd H l (.tup ys)))∨(SqT K H p ys∧Q (.ref p) H))
noncomputable def Zz6(j i:Nat):FS:=fun δ=>match δ[i]? with
 |some (some (.oL p xss))=>(xss[xss.length- 1]?).bind fun xs=>if i≠j∧j<δ.length then some (.nx ((δ.set i (some (.oL p xss.dropLast))).set j (some (.ol xs))))else none
 |_=>none
noncomputable def hole(H:Hp)(ns:Zo):Hp:=fun b=>if b∈adr ns then none else H b
noncomputable def spM(K:PySem.W.Frag)(g:Addr→List (List D)→Option (List (List D))):Sp:=fun vs H Q _=>∃F a xss ws ns yss,vs=[V.ref a]∧Same F H∧Kids K F xss ws ns∧(adr ((a,HO.lst ws)::ns)).Nodup∧(∀p∈(a,HO.lst ws)::ns,F p.1=none∧H p.1=some p.2)∧g a xss=some yss∧
 ∀H' F' ws' ns',Same (hole H ((a,.lst ws)::ns)) H'→Same F F'→Same F' H'→(∀(b:Addr) (o:HO),F' b=some o→F b=some o∨hole H ((a,.lst ws)::ns) b=none)→Kids K F' yss ws' ns'→(adr ((a,HO.lst ws')::ns')).Nodup→
  (∀p∈(a,HO.lst ws')::ns',F' p.1=none∧hole H ((a,.lst ws)::ns) p.1=none∧H' p.1=some p.2)→Q .non H'
@[simp] noncomputable def Zoa(n:Nat)(a:Addr)(xss:List (List D)):DSt:=some (.oL (some a) xss)::List.replicate (n- 1) none
@[simp] noncomputable def Ztg(a:Addr)(o:Option (Option SV)):Option (List (List D)):=match o with
 |some (some (.oL (some b) yss))=>if b=a then some yss else none
 |_=>none
@[simp] noncomputable def outM(f:FS)(n:Nat)(a:Addr)(xss:List (List D)):Option (List (List D)):=match f (Zoa n a xss)with
 |some (.nx δ)=>Ztg a δ[0]?
 |_=>none
open Classical in
noncomputable def mutF(i:Nat)(g:Addr→List (List D)→Option (List (List D))):FS:=fun δ=>match δ[i]? with
 |some (some (.oL p xss))=>if h:∃o,∀a,g a xss=some o then some (.nx (δ.set i (some (.oL p h.choose))))else none
 |_=>none
end
end DL
namespace DL
open PySem PySem.Spec PyProof.Rows L2
section
variable{X:Cx}{Z:Ent X.K}{a b c:Expr}{fa fb fc:FE}{pos:Pos}
end
end DL
namespace L2
open PySem PySem.Spec PyProof.Rows
section
variable{X:Cx}
noncomputable abbrev Zz7:List V→Hp→VK→Prop:=fun xs H Q=>∃(x:Str) (n:Int),xs=[V.str x]∧PySem.intText? x=some n∧x.length≤640∧Q (.int n) H
end
end L2
namespace DL
open PySem PySem.Spec PyProof.Rows L2
variable{K:PySem.W.Frag}
noncomputable def Zz8:List D→Option SV
 | [.str x]=>if x.length≤640 then(PySem.intText? x).bind fun n=>some (.fz (.int n))else none
 |_=>none
section
variable{X:Cx}{Z:Ent X.K}{a:Expr}{fa:FE}{pos:Pos}
end
end DL
namespace L2
open PySem PySem.Spec PyProof.Rows
section
variable{X:Cx}
noncomputable def Zz9(K:PySem.W.Frag):V→List V→Hp→VK→Prop:=fun x vs H Q=>∃l b xs zs,x= .ref l∧vs=[.ref b]∧H l=some (.lst xs)∧SqT K H b zs∧xs.length+zs.length≤sizeLine∧Q .non (upd H l (.lst (xs++zs)))
noncomputable def Zys:List V→Hp→VK→Prop:=fun xs H Q=>∃p kvs,xs=[.ref p]∧RdK H p kvs∧∀l,H l=none→Q (.ref l) (upd H l (.lst (kvs.map fun kv=>kV kv.1)))
end
end L2
namespace DL
open PySem PySem.Spec PyProof.Rows L2
variable{K:PySem.W.Frag}
noncomputable def Zwv:List D→Option SV
 | [.dK ks _]=>some (.ol (ks.map keyD))
 |_=>none
@[simp] theorem Zuq(ks:List Key)(vs:List D):Zwv [.dK ks vs]=some (.ol (ks.map keyD)):=rfl
section
variable{Z:Ent K}{H:Hp}{σ:L2.St}{Q:VK}{E:Ends}
@[simp] noncomputable def SV.tup?:RV→Option (List D)
 | .tmp (.fz (.tup ys))=>some ys
 |_=>none
@[simp] noncomputable def Z0a(i:Nat)(fe:FE):FS:=fun δ=>match δ[i]? with
 |some (some (.ol _))=>(fe δ).bind fun p=>(SV.tup? p.1).bind fun ys=>match p.2[i]? with
  |some (some (.ol xs))=>if xs.length+ys.length≤PySem.sizeLine then some (.nx (p.2.set i (some (.ol (xs++ys)))))else none
  |_=>none
 |_=>none
end
section
variable{X:Cx}{Z:Ent X.K}{a b c:Expr}{fa fb fc:FE}{pos:Pos}
end
end DL
namespace DL
open PySem PySem.Spec PyProof.Rows L2
section
variable{K:PySem.W.Frag}{Z:Ent K}{H:Hp}{σ:L2.St}{Q:VK}
@[simp] noncomputable def bmX(T:String)(g:List D→Option SV)(fo:FE)(fa:FAX):FX:=fun δ=>(fo δ).bind fun p=>(rdv p.1 p.2).bind fun d0=>if tyOk T d0=true then(fa p.2).bind fun
 | .x e δ2=>some (.x e δ2)
 | .v rvs δ2=>(Zbg (p.1::rvs) δ2).bind fun ds=>(g ds).bind fun sv=>some (.v (.tmp sv) δ2)else none
end
section
variable{X:Cx}{Z:Ent X.K}{a b:Expr}{fa:FE}{fx:FX}
end
end DL
namespace DL
open PySem PySem.Spec PyProof.Rows L2
section
variable{K:PySem.W.Frag}{Z:Ent K}{H:Hp}{σ:L2.St}{Q:VK}{E:Ends}
inductive MR where
 |v (yss:List (List D))|x (e:Exn)
noncomputable def spMX(K:PySem.W.Frag)(g:Addr→List (List D)→Option MR):Sp:=fun vs H Q E=>∃F a xss ws ns r,vs=[V.ref a]∧Same F H∧Kids K F xss ws ns∧(adr ((a,HO.lst ws)::ns)).Nodup∧(∀p∈(a,HO.lst ws)::ns,F p.1=none∧H p.1=some p.2)∧g a xss=some r∧match r with
 | .v yss=>∀H' F' ws' ns',Same (hole H ((a,.lst ws)::ns)) H'→Same F F'→Same F' H'→(∀(b:Addr) (o:HO),F' b=some o→F b=some o∨hole H ((a,.lst ws)::ns) b=none)→Kids K F' yss ws' ns'→(adr ((a,HO.lst ws')::ns')).Nodup→
   (∀p∈(a,HO.lst ws')::ns',F' p.1=none∧hole H ((a,.lst ws)::ns) p.1=none∧H' p.1=some p.2)→Q .non H'
 | .x e=>∀cls od H' F',Same (hole H ((a,.lst ws)::ns)) H'→Same F F'→Same F' H'→(∀(b:Addr) (o:HO),F' b=some o→F b=some o∨hole H ((a,.lst ws)::ns) b=none)→Zhv K F' e cls od→E cls od H'
@[simp] noncomputable def Z0b(f:FS)(n:Nat)(a:Addr)(xss:List (List D)):Option MR:=match f (Zoa n a xss)with
 |some (.nx δ)=>(Ztg a δ[0]?).map .v
 |some (.ex e _)=>some (.x e)
 |_=>none
open Classical in
noncomputable def Z0c(i:Nat)(g:Addr→List (List D)→Option MR):FS:=fun δ=>match δ[i]? with
 |some (some (.oL p xss))=>if h:∃o,∀a,g a xss=some o then(match h.choose with
  | .v yss=>some (.nx (δ.set i (some (.oL p yss))))
  | .x e=>some (.ex e (δ.set i none)))else none
 |_=>none
noncomputable def Zur(i:Nat)(fx:FX):FS:=fun δ=>match δ[i]? with
 |some (some (.oL _ xss0))=>if xss0.length=0 then none else(fx δ).bind fun
  | .x e δ1=>some (.ex e δ1)
  | .v rv δ1=>(frz rv δ1).bind fun r=>match r.2[i]? with
   |some (some (.oL p xss))=>(xss[xss.length- 1]?).bind fun xs=>if xs.length<PySem.sizeLine then some (.nx (r.2.set i (some (.oL p (xss.set (xss.length- 1) (xs++[r.1]))))))else none
   |_=>none
 |_=>none
end
section
variable{X:Cx}{Z:Ent X.K}{a b c:Expr}{fa fb fc:FE}{fx:FX}{pos:Pos}
end
end DL
namespace L2
open PySem PySem.Spec PyProof.Rows
end L2
namespace L2
open PySem PySem.Spec PyProof.Rows
section
variable{X:Cx}
noncomputable def Z0d(K:PySem.W.Frag):R2:=fun x y H Q=>∃a k xs,x= .ref a∧y= .int k∧SqT K H a xs∧xs≠[]∧2≤k∧k≤1000∧xs.length≤1000∧∀p,H p=none→Q (.ref p) (upd H p (.tup (List.replicate k.toNat xs).flatten))
end
end L2
namespace DL
open PySem PySem.Spec PyProof.Rows L2
variable{K:PySem.W.Frag}
section
variable{Z:Ent K}
noncomputable def Z0e:D→D→Option SV
 | .tup xs,.int k=>if xs.isEmpty=false∧2≤k∧k≤1000∧xs.length≤1000 then some (.fz (.tup (List.replicate k.toNat xs).flatten))else none
 |_,_=>none
end
section
variable{X:Cx}{Z:Ent X.K}{a b:Expr}{fa fb:FE}{pos:Pos}
end
end DL
namespace L2
open PySem PySem.Spec PyProof.Rows
section
variable{X:Cx}
noncomputable def Zww:V→List V→Hp→VK→Prop:=fun x xs H Q=>∃a b k,x= .str a∧xs=[.str b,.int k]∧(b.length==0)=false∧0≤k∧k≤1000∧a.length≤sizeLine∧(Txt.splitMax a b k).length≤sizeLine∧∀p,H p=none→Q (.ref p) (upd H p (.lst ((Txt.splitMax a b k).map V.str)))
end
end L2
namespace DL
open PySem PySem.Spec PyProof.Rows L2
variable{K:PySem.W.Frag}
section
variable{Z:Ent K}
@[simp] noncomputable def Zwx:List D→Option SV
 | [.str a,.str b,.int k]=>if(b.length==0)=false∧0≤k∧k≤1000∧a.length≤PySem.sizeLine∧(Txt.splitMax a b k).length≤PySem.sizeLine then some (.ol ((Txt.splitMax a b k).map D.str))else none
 |_=>none
end
section
variable{X:Cx}{Z:Ent X.K}{a b c:Expr}{fa fb fc:FE}
end
end DL
namespace L2
open PySem PySem.Spec PyProof.Rows
section
variable{M:Model}{A:Around}{E:Value→Shared→Prop}{s:Shared}{env:Env}
end
section
variable{prog:Program}{w:World}{A:Around}{E:Value→Shared→Prop}{s:Shared}
end
section
variable{X:Cx}
noncomputable def Ite1(K:PySem.W.Frag)(a:Addr):It:=
 ⟨fun i H=>∃xs x,SqL K H a xs∧xs[i]? =some x,fun i H x H'=>∃p v,x= .ref p∧H p=none∧H'=upd H p (.tup [.int ((i+1:Nat):Int),v])∧∀xs,SqL K H a xs→xs[i]? =some v,fun i H=>∃xs,SqL K H a xs∧xs.length≤i⟩
noncomputable def Zyt(K:PySem.W.Frag)(ta:TA):TI:=fun σ H R=>ta σ H fun vs H1=>∃a xs,vs=[.ref a]∧SqL K H1 a xs∧R (Ite1 K a) H1
end
end L2
namespace DL
open PySem PySem.Spec PyProof.Rows L2
variable{K:PySem.W.Frag}
noncomputable def Zth(xs:List D):List D:=(xs.zipIdx 1).map fun p=>.tup [.int (p.2:Nat),p.1]
section
variable{Z:Ent K}{H:Hp}{σ:L2.St}{Q:VK}
@[simp] noncomputable def Zyu(fd:FD):FD:=fun δ=>(fd δ).bind fun p=>match p.1 with
 | [.lst xs]=>some (Zth xs,p.2)
 |_=>none
end
section
variable{X:Cx}{Z:Ent X.K}{a:Expr}{fa:FE}{pos:Pos}
end
end DL
namespace DL
open PySem PySem.Spec PyProof.Rows L2
variable{K:PySem.W.Frag}
section
variable{Z:Ent K}
@[simp] noncomputable def Z0f:List D→Option SV
 | [.lst xs]=>some (.fz (.int (xs.length:Nat)))
 | [.tup xs]=>some (.fz (.int (xs.length:Nat)))
 | [.str x]=>if x.length≤PySem.sizeLine then some (.fz (.int (x.length:Nat)))else none
 | [.dK ks _]=>some (.fz (.int (ks.length:Nat)))
 |_=>none
end
section
variable{X:Cx}{Z:Ent X.K}{a:Expr}{fa:FE}{pos:Pos}
end
end DL
namespace DL
open PySem PySem.Spec PyProof.Rows L2
variable{K:PySem.W.Frag}
section
variable{Z:Ent K}{H:Hp}{σ:L2.St}{Q:VK}{E:Ends}
noncomputable abbrev UR:=D×List Key×List D
noncomputable abbrev UG:=Addr→List D→List Key→List D→Option UR
noncomputable def spU(K:PySem.W.Frag)(n:Nat)(g:UG):Sp:=fun vs H Q _=>∃F a us ds kvs ep es r,vs=us++[V.ref a]∧Same F H∧Reps K F ds us∧ds.length=n∧Reps K F es (kvs.map (·.2))∧F a=none∧H a=some (.dK kvs ep)∧g a ds (kvs.map (·.1)) es=some r∧
 ∀v H' F' kvs' ep',Same (hole H [(a,.dK kvs ep)]) H'→Same F F'→Same F' H'→(∀(b:Addr) (o:HO),F' b=some o→F b=some o∨hole H [(a,.dK kvs ep)] b=none)→Rep K F' r.1 v→kvs'.map (·.1)=r.2.1→Reps K F' r.2.2 (kvs'.map (·.2))→F' a=none→H' a=some (.dK kvs' ep')→Q v H'
@[simp] noncomputable def runs:List FS→DSt→Option DSt
 | [],δ=>some δ
 |f::r,δ=>match f δ with
  |some (.nx δ1)=>runs r δ1
  |_=>none
noncomputable def Zwy(Z:Ent K):List FS→TS→TS
 | [],t=>t
 |f::r,t=>tSeq (Z0 Z f) (Zwy Z r t)
@[simp] noncomputable def Zti(n:Nat)(a:Addr)(ds:List D)(ks:List Key)(es:List D):DSt:=ds.map (fun d=>some (.fz d))++some (.oQ a ks es)::List.replicate (n- ds.length- 1) none
@[simp] noncomputable def Zwz(a:Addr)(d:D):Option (Option SV)→Option UR
 |some (some (.oQ b ks es))=>if b=a then some (d,ks,es)else none
 |_=>none
@[simp] noncomputable def outU(fs:List FS)(fe:FE)(n:Nat):UG:=fun a ds ks es=>(runs fs (Zti n a ds ks es)).bind fun δ=>(fe δ).bind fun p=>(frz p.1 p.2).bind fun q=>Zwz a q.1 (q.2[ds.length]?)
noncomputable def Z0g(Z:Ent K)(f:FE):TE:=fun σ H Q=>∃F δ own rv δ',SR Z F H σ δ own∧f δ=some (rv,δ')∧
 ∀v H' F' own',Same F F'→SR Z F' H' σ δ' own'→RVS K F' σ rv v→Q v H'
noncomputable def Zyv(Z:Ent K)(i:Nat)(fd:FD):TA:=fun σ H R=>Za6 Z fd σ H fun vs H1=>∃x,σ[i]? =some (some x)∧R (vs++[x]) H1
open Classical in
noncomputable def Zyw(i n:Nat)(g:UG)(fd:FD):FE:=fun δ=>(fd δ).bind fun p=>if p.1.length=n then match p.2[i]? with
 |some (some (.oK ks es))=>if h:∃r,∀a,g a p.1 ks es=some r then some (.tmp (.fz h.choose.1),p.2.set i (some (.oK h.choose.2.1 h.choose.2.2)))else none
 |_=>none else none
@[simp] noncomputable def Z0h(g:D→D→Option SV)(fa fb:FE):FE:=fun δ=>(fa δ).bind fun p=>(frz p.1 p.2).bind fun q=>(fb q.2).bind fun r=>(rdv r.1 r.2).bind fun d2=>(g q.1 d2).bind fun sv=>if sv.scal then some (.tmp sv,r.2)else none
@[simp] noncomputable def Z0i(i:Nat)(fe:FE):FS:=fun δ=>match δ[i]? with
 |some (some (.ol _))=>(fe δ).bind fun p=>(frz p.1 p.2).bind fun q=>match q.2[i]? with
  |some (some (.ol xs))=>if xs.length<PySem.sizeLine then some (.nx (q.2.set i (some (.ol (xs++[q.1])))))else none
  |_=>none
 |_=>none
end
section
variable{X:Cx}{Z:Ent X.K}{a b c:Expr}{fa fb fc:FE}{pos:Pos}
end
end DL
namespace DL
open PySem PySem.Spec PyProof.Rows L2
variable{K:PySem.W.Frag}
noncomputable def SkD(ks:List Key)(m:Nat)(d:D):Prop:=∃vs,d= .dK ks vs∧ks.length=vs.length∧∀v∈vs,∃(x:Str) (ks2:List Key) (ys:List Str),v= .tup [.str x,.dK ks2 (ys.map D.str)]∧ys.length≤m
noncomputable def Skel(W:Addr→Prop)(H:Hp)(ks:List Key)(m:Nat)(v:V):Prop:=∃a kvs ep,v= .ref a∧W a∧H a=some (.dK kvs ep)∧kvs.map (·.1)=ks∧∀p∈kvs,∃t x b kvs2 ep2,p.2= .ref t∧W t∧H t=some (.tup [.str x,.ref b])∧W b∧H b=some (.dK kvs2 ep2)∧kvs2.length≤m∧∀q∈kvs2,∃y,q.2= .str y
noncomputable def Z0j(Z:Ent K)(F:Hp)(own:Nat→Zo)(W:Addr→Prop):Prop:=∀b,W b→F b=none∧Z.h b=none∧∀i p,p∈own i→p.1≠b
section
variable{Z:Ent K}{F H:Hp}{σ:L2.St}{δ:DSt}{own:Nat→Zo}{W:Addr→Prop}
open Classical in
noncomputable def wH(W:Addr→Prop)(H F:Hp):Hp:=fun b=>if W b then H b else F b
noncomputable def entW(Z:Ent K)(W:Addr→Prop)(H F:Hp):Ent K:=⟨wH W H Z.h,F,Z.x⟩
end
section
variable{Z:Ent K}{H:Hp}{σ:L2.St}{Q:VK}{E:Ends}
noncomputable def Zw0(i j n:Nat)(ds:List D)(δ1:DSt)(sv:SV)(T1 T2:FT)(is:List D)(δ3:DSt):Prop:=
 ds.length=n∧(∀d∈ds,SV.scal (.fz d)=true)∧i≠j∧i<δ1.length∧j<δ1.length∧∃(ks:List Key) (m:Nat) (ks':List Key),SkD ks m sv.toD∧(∃δ2,T1 (δ1.set i (some (.fz sv.toD)))=some (false,δ2))∧is=ks'.map keyD∧(∀k∈ks',k∈ks)∧m+ks'.length<PySem.sizeLine∧
  ∀k∈ks',∀m' d,SkD ks m' d→∃δ4,T2 ((δ3.set i (some (.fz d))).set j (some (.fz (keyD k))))=some (false,δ4)
open Classical in
noncomputable def Z0k(i j n:Nat)(g:List D→Option SV)(fd:FD)(T1:FT)(fi:FE)(T2:FT):FS:=fun δ=>(fd δ).bind fun p=>(g p.1).bind fun sv=>(dicI fi (p.2.set i none)).bind fun q=>
 if Zw0 i j n p.1 p.2 sv T1 T2 q.1 q.2 then some (.nx ((q.2.set i none).set j none))else none
noncomputable abbrev tWay(i j:Nat)(K:PySem.W.Frag):TE:=tOp (rIx K) (Zrv (tVar i) (tVar j)) (tC (.int 1))
noncomputable def allI(K:PySem.W.Frag)(fi:FE):TI:=fun σ H R=>∃Z':Ent K,Zbp Z' (dicI fi) σ H R
end
section
variable{X:Cx}{Z:Ent X.K}{a b c:Expr}{fa fb fc:FE}{pos:Pos}
end
end DL
namespace SX
open PySem
noncomputable def Rise(l:List Nat):Prop:=l.Pairwise (· < ·)
noncomputable def At(xs:Array Nat)(j p:Nat):Prop:=p≤xs.size∧(∀i y,i<p→xs[i]? =some y→y<j)∧∀i y,p≤i→xs[i]? =some y→j≤y
structure Tab(B:Bool)(t:SetTable):Prop where
 led:t.led= !B
 dum:t.dummies= #[]
 rise:t.plain=true→Rise t.place.toList
end SX
namespace SX
open PySem PyProof.Rows
variable{prog:Program}{w:World}{A:Around}{E:Value→Shared→Prop}{s:Shared}
noncomputable abbrev nums(l:List (Int×Value)):List Int:=l.map fun e=>numOf e.2
noncomputable def Own(prog:Program)(w:World)(B:Bool)(o:Obj)(ks:List Int):Prop:=∃es ep t,o.ExactSet∧o.data= .set es ep t∧ElemsOf (intKind prog w) es.toList∧(nums es.toList).Perm ks∧t.fits es.size=true∧Tab B t∧es.size<scanBound
end SX
namespace SX
open PySem PySem.Spec PyProof.Rows
noncomputable def dd(val:Nat→Int):Nat→List Int
 |0=>[]
 |i+1=>if val i∈dd val i then dd val i else dd val i++[val i]
section
variable{prog:Program}{w:World}{A:Around}{R:Result→Shared→Prop}{I:Addr}{fp wr:List Addr}{G:Array GenState→Array GenState→Prop}{n:Nat}{P:Nat→Value→Prop}{St:Nat→Shared→Prop}
end
noncomputable abbrev By(w:World):Bool:=w.params.followText "set-order"
noncomputable abbrev setO(w:World):Obj:={cls:=.type "set",dict:=none,data:=.set #[] 0 (.fresh 0 0 (!By w))}
section
variable{prog:Program}{w:World}{A:Around}{E:Value→Shared→Prop}{s:Shared}
end
end SX
namespace SX
open PySem PySem.Spec PyProof.Rows
section
variable{prog:Program}{w:World}{A:Around}{E:Value→Shared→Prop}{s:Shared}
end
noncomputable abbrev itO(first:Value)(i:Nat)(r:Addr)(n ep:Nat):Obj:={cls:=.type "set_iterator",dict:=none,data:=.fields #[first,.int (i:Int) 0,.ref r,.int (n:Int) 0,.int (ep:Int) 0],slots:= #[]}
noncomputable abbrev tupO(ps:List Nat):Obj:={cls:=.type "tuple",data:=.seq (ps.map fun i:Nat=>rawInt i).toArray}
section
variable{prog:Program}{w:World}{A:Around}{E:Value→Shared→Prop}{s:Shared}{r:Addr}{o:Obj}{es:Array (Int×Value)}{ep:Nat}{t:SetTable}
end
end SX
namespace SX
open PySem PySem.Spec PyProof.Rows
section
variable{prog:Program}{w:World}{A:Around}{E:Value→Shared→Prop}{s:Shared}{I r:Addr}{o:Obj}{es:Array (Int×Value)}{ep:Nat}{t:SetTable}{slot i nx:Nat}{x:Value}{Q:Option Value→Shared→Prop}
noncomputable abbrev Zyx(prog:Program)(w:World)(A:Around)(s:Shared)(r:Addr)(slot i ep:Nat)(y:Option (Value×Nat)):Prop:=∀(R:Option (Value×Nat)→Shared→Prop) (E':Value→Shared→Prop),R y s→wpAny (model prog w) A (setNext r slot i ep) R E' s
variable{T:Addr}{ps:List Nat}
end
end SX
namespace SX
open PySem PySem.Spec PyProof.Rows
noncomputable abbrev lstO(acc:Array Value)(c:Nat):Obj:={cls:=.type "list",dict:=none,data:=.seq acc c,slots:= #[]}
structure Tells(prog:Program)(w:World)(A:Around)(I:Addr)(fp:List Addr)(ord:List Value)(St:Nat→Heap→Prop):Prop where
 mem:I∈fp
 keep:∀i h h',St i h→(∀b∈fp,∀o,h.get? b=some o→h'.get? b=some o)→St i h'
 step:∀i (s:Shared) x (Q:Option Value→Shared→Prop) (E:Value→Shared→Prop),St i s.heap→ord[i]? =some x→(∀h',St (i+1) h'→Heap.SameBut I s.heap h'→Q (some x) {s with heap:=h'})→wpAny (model prog w) A (pyNext (.ref I)) Q E s
 stop:∀(s:Shared) (Q:Option Value→Shared→Prop) (E:Value→Shared→Prop),St ord.length s.heap→(∀h',Heap.ExtBut I s.heap h'→Q none {s with heap:=h'})→wpAny (model prog w) A (pyNext (.ref I)) Q E s
section
variable{prog:Program}{w:World}{A:Around}{E:Value→Shared→Prop}{R:Result→Shared→Prop}{I S:Addr}{fp:List Addr}{ord:List Value}{St:Nat→Heap→Prop}
end
end SX
namespace SX
open PySem PySem.Spec PyProof.Rows
section
variable{prog:Program}{w:World}{A:Around}{E:Value→Shared→Prop}{s:Shared}{I r T:Addr}{o:Obj}{es:Array (Int×Value)}{ep:Nat}{t:SetTable}
noncomputable def sl(t:SetTable):Nat→Nat
 |0=>0
 |i+1=>t.place.getD i 0+1
end
end SX
namespace SX
open PySem PySem.Spec PyProof.Rows
section
variable{prog:Program}{w:World}{A:Around}{E:Value→Shared→Prop}{s:Shared}{I r S:Addr}{o:Obj}{ks:List Int}
end
end SX
namespace SX
open PySem PySem.Spec PyProof.Rows
section
variable{prog:Program}{w:World}{A:Around}{E:Value→Shared→Prop}{s:Shared}{r:Addr}{o:Obj}{ks:List Int}
end
end SX
namespace SX
open PySem PySem.Spec PyProof.Rows
noncomputable def srt(ns:List Int):List Int:=(dd (fun i=>ns.getD i 0) ns.length).mergeSort fun a b=>decide (a≤b)
end SX
namespace L2
open PySem PySem.Spec PyProof.Rows SX
section
variable{X:Cx}
noncomputable def rSS(K:PySem.W.Frag):List V→Hp→VK→Prop:=fun xs H Q=>∃l ns,xs=[.ref l]∧SqL K H l (ns.map V.int)∧ns.length<64∧∀q,H q=none→Q (.ref q) (upd H q (.lst ((srt ns).map V.int)))
theorem Zdk:bootBuiltins "sorted"=some (.builtin "sorted"):=by kernel_rfl
end
end L2
namespace DL
open PySem PySem.Spec PyProof.Rows L2 SX
variable{K:PySem.W.Frag}
@[simp] noncomputable def ints?:List D→Option (List Int)
 | []=>some []
 | .int i::r=>(ints? r).bind fun l=>some (i::l)
 |_=>none
noncomputable def srtD:List D→Option SV
 | [.lst xs]=>(ints? xs).bind fun ns=>if ns.length<64 then some (.ol ((srt ns).map D.int))else none
 |_=>none
section
variable{Z:Ent K}{H:Hp}{σ:L2.St}{Q:VK}{E:Ends}
end
section
variable{X:Cx}{Z:Ent X.K}{a b c:Expr}{fa fb fc:FE}{pos:Pos}
end
end DL
namespace TX
open PySem PySem.W PyProof.Rows
noncomputable def Good{α:Type}(lt:Nat→Nat→Bool)(n:Nat)(R:α→Prop):KasT α→Prop
 | .ret a=>R a
 | .ask i j k=>i<n∧j<n∧Good lt n R (k (lt i j))
theorem Good.bind{α β:Type}{lt:Nat→Nat→Bool}{n:Nat}{R:α→Prop}{S:β→Prop}{f:α→KasT β}(h:∀a,R a→Good lt n S (f a)):∀{t:KasT α},Good lt n R t→Good lt n S (t.bind f)
 | .ret a,g=>h a g
 | .ask i j k,g=>⟨g.1,g.2.1,Good.bind h (t:=k (lt i j)) g.2.2⟩
theorem Good.mono{α:Type}{lt:Nat→Nat→Bool}{n:Nat}{R S:α→Prop}(h:∀a,R a→S a):∀{t:KasT α},Good lt n R t→Good lt n S t
 | .ret a,g=>h a g
 | .ask i j k,g=>⟨g.1,g.2.1,Good.mono h (t:=k (lt i j)) g.2.2⟩
theorem Good.wp{α:Type}{lt:Nat→Nat→Bool}{n:Nat}{R:α→Prop}{cmp:Nat→Nat→(Bool→Shared→Prop)→Shared→Prop}{I:Shared→Prop}{Q:α→Shared→Prop}
  (hc:∀i j C s,i<n→j<n→I s→(∀s',I s'→C (lt i j) s')→cmp i j C s) (hq:∀a s,R a→I s→Q a s):∀{t:KasT α} {s:Shared},Good lt n R t→I s→t.kasWp cmp Q s
 | .ret a,s,g,i=>hq a s g i
 | .ask i j k,s,g,x=>hc i j _ s g.1 g.2.1 x fun s' x'=>Good.wp hc hq (t:=k (lt i j)) g.2.2 x'
section
variable{O:KeyOrd}{key:Nat→O.α}{n:Nat}
noncomputable abbrev ltOf(O:KeyOrd)(key:Nat→O.α)(i j:Nat):Bool:=O.blt (key i) (key j)
noncomputable def Kp(key:Nat→O.α)(p:Array Nat)(i:Nat):O.α:=key (p.getD i 0)
noncomputable def Srt(key:Nat→O.α)(p:Array Nat)(k:Nat):Prop:=∀i j,i≤j→j<k→O.kle (Kp key p i) (Kp key p j)
noncomputable def Dec(key:Nat→O.α)(p:Array Nat)(k:Nat):Prop:=∀i j,i≤j→j<k→O.kle (Kp key p j) (Kp key p i)
noncomputable def Pm(n:Nat)(p:Array Nat):Prop:=p.Perm (List.toArray (List.range n))
theorem Pm.size{p:Array Nat}(h:Pm n p):p.size=n:=by
 have:=(Array.perm_iff_toList_perm.mp h).length_eq
 simpa using this
theorem Pm.lt{p:Array Nat}(h:Pm n p){i:Nat}(hi:i<n):p.getD i 0<n:=by
 have hs:i<p.size:=by rw[h.size];exact hi
 have hm:p[i]∈(List.range n):=(Array.perm_iff_toList_perm.mp h).mem_iff.mp (by simp)
 rw[Array.getD_eq_getD_getElem?,getElem?_pos p i hs]
 exact List.mem_range.mp hm
theorem Zcd{p q:Array Nat}{i j:Nat}(h:p[i]? =q[j]?):Kp key p i=Kp key q j:=by
 unfold Kp
 rw[Array.getD_eq_getD_getElem?,Array.getD_eq_getD_getElem?,h]
theorem Zf9{p:Array Nat}{i j:Nat}(hj:j≤p.size)(k:Nat):Kp key (kas_rev p i j) k=if i≤k∧k<j then Kp key p (i+j- 1- k)else Kp key p k:=by
 have e:=getElem?_mirror_all (xs:=p) (i:=i) hj k
 unfold kas_rev
 by_cases h:i≤k∧k<j
 ·rw[if_pos h]at e⊢;exact Zcd e
 ·rw[if_neg h]at e⊢;exact Zcd e
theorem Zob{p:Array Nat}{src d:Nat}(hs:src<p.size)(hd:d≤src)(k:Nat):Kp key (bubble p src d) k=if k=src- d then Kp key p src else if src- d<k∧k≤src then Kp key p (k- 1)else Kp key p k:=by
 have e:=getElem?_bubble hs d hd k
 by_cases h1:k=src- d
 ·rw[if_pos h1]at e⊢;exact Zcd e
 ·rw[if_neg h1]at e⊢
  by_cases h2:src- d<k∧k≤src
  ·rw[if_pos h2]at e⊢;exact Zcd e
  ·rw[if_neg h2]at e⊢;exact Zcd e
theorem Pm.rev{p:Array Nat}(h:Pm n p)(i j:Nat):Pm n (kas_rev p i j):=(mirror_perm p i j _).trans h
theorem Pm.bub{p:Array Nat}(h:Pm n p)(i j:Nat):Pm n (bubble p i j):=(bubble_perm p i j).trans h
theorem Zer{p:Array Nat}(hp:Pm n p):∀(f m:Nat),1≤m→m+f≤n→Srt key p m→
  Good (ltOf O key) n (fun r=>m≤r∧r≤m+f∧Srt key p r∧(r=m+f∨O.klt (Kp key p r) (Kp key p (r- 1)))) (kas_asc p f m)
 |0,m,_,_,hs=>⟨Nat.le_refl _,Nat.le_refl _,hs,.inl rfl⟩
 |f+1,m,h1,hm,hs=>by
  refine⟨hp.lt (by omega),hp.lt (by omega),?_⟩
  show Good _ _ _ (if O.blt (Kp key p m) (Kp key p (m- 1))=true then _ else _)
  by_cases c:O.blt (Kp key p m) (Kp key p (m- 1))=true
  ·rw[if_pos c]
   exact⟨Nat.le_refl _,by omega,hs,.inr c⟩
  ·rw[if_neg c]
   refine(Zer hp f (m+1) (by omega) (by omega) fun i j hij hj=>?_).mono fun r ⟨a,b,d,e⟩=>⟨by omega,by omega,d,by rcases e with e|e;exact .inl (by omega);exact .inr e⟩
   by_cases hjm:j<m
   ·exact hs i j hij hjm
   ·have:j=m:=by omega
    subst this
    by_cases hi:i=j
    ·subst hi;exact KeyOrd.kle_refl _
    ·exact KeyOrd.kle_trans (hs i (j- 1) (by omega) (by omega)) (KeyOrd.kle_of_not_klt c)
theorem Zce:∀(f:Nat) (p:Array Nat) (m q:Nat),Pm n p→1≤m→m+f≤n→Dec key p m→q+1≤m→(∀i,m- (q+1)≤i→i<m→Kp key p i=Kp key p (m- 1))→
  Good (ltOf O key) n (fun r=>Pm n r.1∧m≤r.2.1∧r.2.1≤m+f∧Dec key r.1 r.2.1∧r.2.2+1≤r.2.1∧∀i,r.2.1- (r.2.2+1)≤i→i<r.2.1→Kp key r.1 i=Kp key r.1 (r.2.1- 1)) (kas_desc f p m q)
 |0,p,m,q,hp,_,_,hs,hq,he=>⟨hp,Nat.le_refl _,Nat.le_refl _,hs,hq,he⟩
 |f+1,p,m,q,hp,h1,hm,hs,hq,he=>by
  have hsz:m≤p.size:=by rw[hp.size];omega
  refine⟨hp.lt (by omega),hp.lt (by omega),?_⟩
  show Good _ _ _ (if O.blt (Kp key p m) (Kp key p (m- 1))=true then _ else _)
  have up:∀{r:Array Nat×Nat×Nat},(Pm n r.1∧m+1≤r.2.1∧r.2.1≤m+1+f∧Dec key r.1 r.2.1∧r.2.2+1≤r.2.1∧∀i,r.2.1- (r.2.2+1)≤i→i<r.2.1→Kp key r.1 i=Kp key r.1 (r.2.1- 1))→
    (Pm n r.1∧m≤r.2.1∧r.2.1≤m+(f+1)∧Dec key r.1 r.2.1∧r.2.2+1≤r.2.1∧∀i,r.2.1- (r.2.2+1)≤i→i<r.2.1→Kp key r.1 i=Kp key r.1 (r.2.1- 1)):=
   fun⟨a,b,c,d⟩=>⟨a,by omega,by omega,d⟩
  have step1:∀x:Array Nat,O.blt (Kp key p m) (Kp key p (m- 1))=true→(∀k,Kp key x k=Kp key p k)→Dec key x (m+1):=by
   intro x c hk i j hij hj
   rw[hk,hk]
   by_cases hjx:j<m
   ·exact hs i j hij hjx
   ·have hj':j=m:=by omega
    subst hj'
    by_cases hi':i=j
    ·subst hi';exact KeyOrd.kle_refl _
    ·exact KeyOrd.kle_trans (KeyOrd.kle_of_klt c) (hs i (j- 1) (by omega) (by omega))
  have one:∀x:Array Nat,∀i,m+1- (0+1)≤i→i<m+1→Kp key x i=Kp key x (m+1- 1):=fun x i a b=>by congr 1;omega
  by_cases c:O.blt (Kp key p m) (Kp key p (m- 1))=true
  ·rw[if_pos c]
   by_cases hq0:q > 0
   ·rw[if_pos hq0]
    refine(Zce f (kas_rev p (m- (q+1)) m) (m+1) 0 (hp.rev _ _) (by omega) (by omega) (step1 _ c fun k=>?_) (by omega) (one _)).mono fun r=>up
    rw[Zf9 hsz]
    by_cases hk:m- (q+1)≤k∧k<m
    ·rw[if_pos hk,he _ (by omega) (by omega),he k hk.1 hk.2]
    ·rw[if_neg hk]
   ·rw[if_neg hq0]
    exact(Zce f p (m+1) 0 hp (by omega) (by omega) (step1 _ c fun _=>rfl) (by omega) (one _)).mono fun r=>up
  ·rw[if_neg c]
   refine⟨hp.lt (by omega),hp.lt (by omega),?_⟩
   show Good _ _ _ (if O.blt (Kp key p (m- 1)) (Kp key p m)=true then _ else _)
   by_cases d:O.blt (Kp key p (m- 1)) (Kp key p m)=true
   ·rw[if_pos d]
    exact⟨hp,Nat.le_refl _,Nat.le_add_right _ _,hs,hq,he⟩
   ·rw[if_neg d]
    have ex:Kp key p m=Kp key p (m- 1):=KeyOrd.kle_antisymm (by simpa[KeyOrd.kle]using d) (by simpa[KeyOrd.kle]using c)
    refine(Zce f p (m+1) (q+1) hp (by omega) (by omega) (fun i j hij hj=>?_) (by omega) fun i a b=>?_).mono fun r=>up
    ·by_cases hjx:j<m
     ·exact hs i j hij hjx
     ·have hj':j=m:=by omega
      subst hj'
      by_cases hi':i=j
      ·subst hi';exact KeyOrd.kle_refl _
      ·rw[ex];exact hs i (j- 1) (by omega) (by omega)
    ·rw[show m+1- 1=m by omega]
     by_cases hix:i=m
     ·subst hix;rfl
     ·rw[ex];exact he i (by omega) (by omega)
noncomputable abbrev Ct(key:Nat→O.α)(n:Nat)(r:Nat×Array Nat):Prop:=Pm n r.2∧1≤r.1∧r.1≤n∧Srt key r.2 r.1
theorem Zd8{p:Array Nat}(hp:Pm n p){m:Nat}(h1:1≤m)(hm:m≤n)(hs:Dec key p m):Good (ltOf O key) n (Ct key n) (kas_tail3 m n p):=by
 have hsz:m≤p.size:=by rw[hp.size];exact hm
 refine Good.bind (R:=fun r=>m≤r∧r≤m+(n- m)∧Srt key (kas_rev p 0 m) r∧_) (fun r ⟨a,b,c,_⟩=>⟨hp.rev _ _,by show 1≤r;omega,by show r≤n;omega,c⟩) (Zer (hp.rev 0 m) (n- m) m h1 (by omega) fun i j hij hj=>?_)
 rw[Zf9 hsz,Zf9 hsz,if_pos (by omega),if_pos (by omega)]
 exact hs _ _ (by omega) (by omega)
theorem Zcf{p:Array Nat}(hp:Pm n p){m:Nat}(hm:m+1≤n)(hs:Dec key p (m+1)):Good (ltOf O key) n (Ct key n) (kas_descPart m n p):=by
 refine Good.bind (fun r h=>?_) (Zce (n- (m+1)) p (m+1) 0 hp (by omega) (by omega) hs (by omega) fun i a b=>by congr 1;omega)
 obtain⟨a,b,c,d,e,g⟩:=h
 have hsz:r.2.1≤r.1.size:=by rw[a.size];omega
 by_cases hq:r.2.2 > 0
 ·rw[if_pos hq]
  refine Zd8 (a.rev _ _) (by omega) (by omega) fun i j hij hj=>?_
  have k:∀x,Kp key (kas_rev r.1 (r.2.1- (r.2.2+1)) r.2.1) x=Kp key r.1 x:=fun x=>by
   rw[Zf9 hsz]
   by_cases hk:r.2.1- (r.2.2+1)≤x∧x<r.2.1
   ·rw[if_pos hk,g _ (by omega) (by omega),g x hk.1 hk.2]
   ·rw[if_neg hk]
  rw[k,k]
  exact d i j hij hj
 ·rw[if_neg hq]
  exact Zd8 a (by omega) (by omega) d
theorem Zi5{p:Array Nat}(hp:Pm n p)(h1:1≤n):Good (ltOf O key) n (Ct key n) (kas_count n p):=by
 refine Good.bind (fun m h=>?_) (Zer (key:=key) hp (n- 1) 1 (Nat.le_refl _) (by omega) fun i j hij hj=>by(have:i=j:=by omega);subst this;exact KeyOrd.kle_refl _)
 obtain⟨a,b,c,d⟩:=h
 by_cases hm:(m==n)=true
 ·rw[if_pos hm]
  exact⟨hp,a,by show m≤n;omega,c⟩
 ·rw[if_neg hm]
  have hne:m≠n:=fun z=>hm (by rw[z];exact beq_self_eq_true n)
  have br:O.klt (Kp key p m) (Kp key p (m- 1)):=by
   rcases d with d|d
   ·omega
   ·exact d
  by_cases h2:m > 1
  ·rw[if_pos h2]
   refine⟨hp.lt (by omega),hp.lt (by omega),?_⟩
   show Good _ _ _ (if O.blt (Kp key p 0) (Kp key p (m- 1))=true then _ else _)
   by_cases c0:O.blt (Kp key p 0) (Kp key p (m- 1))=true
   ·rw[if_pos c0]
    exact⟨hp,a,by show m≤n;omega,c⟩
   ·rw[if_neg c0]
    have hsz:m≤p.size:=by rw[hp.size];omega
    have eq:∀i,i<m→Kp key p i=Kp key p (m- 1):=fun i hi=>
     KeyOrd.kle_antisymm (c i (m- 1) (by omega) (by omega)) (KeyOrd.kle_trans (by simpa[KeyOrd.kle]using c0) (c 0 i (by omega) hi))
    have k:∀x,Kp key (kas_rev p 0 m) x=Kp key p x:=fun x=>by
     rw[Zf9 hsz]
     by_cases hk:0≤x∧x<m
     ·rw[if_pos hk,eq _ (by omega),eq x hk.2]
     ·rw[if_neg hk]
    refine Zcf (hp.rev 0 m) (by omega) fun i j hij hj=>?_
    rw[k,k]
    by_cases hjm:j=m
    ·subst hjm
     by_cases hi:i=j
     ·subst hi;exact KeyOrd.kle_refl _
     ·rw[eq i (by omega)];exact KeyOrd.kle_of_klt br
    ·rw[eq i (by omega),eq j (by omega)];exact KeyOrd.kle_refl _
  ·rw[if_neg h2]
   have:m=1:=by omega
   subst this
   refine Zcf hp (by omega) fun i j hij hj=>?_
   by_cases hi:i=j
   ·subst hi;exact KeyOrd.kle_refl _
   ·have:i=0:=by omega
    subst this
    have:j=1:=by omega
    subst this
    exact KeyOrd.kle_of_klt br
theorem Zcn{p:Array Nat}(hp:Pm n p){k:Nat}(hk:k<n)(hs:Srt key p k):∀(f l r:Nat),l≤r→r≤k→r- l≤f→(∀i,i<l→O.kle (Kp key p i) (Kp key p k))→(∀i,r≤i→i<k→O.kle (Kp key p k) (Kp key p i))→
  Good (ltOf O key) n (fun m=>m≤k∧(∀i,i<m→O.kle (Kp key p i) (Kp key p k))∧∀i,m≤i→i<k→O.kle (Kp key p k) (Kp key p i)) (kas_place p k f l r)
 |0,l,r,hlr,hr,hf,h1,h2=>⟨by omega,h1,fun i a b=>h2 i (by omega) b⟩
 |f+1,l,r,hlr,hr,hf,h1,h2=>by
  show Good _ _ _ (if l≥r then _ else _)
  by_cases c:l≥r
  ·rw[if_pos c]
   exact⟨by omega,h1,fun i a b=>h2 i (by omega) b⟩
  ·rw[if_neg c]
   refine⟨hp.lt hk,hp.lt (by omega),?_⟩
   show Good _ _ _ (if O.blt (Kp key p k) (Kp key p ((l+r) / 2))=true then _ else _)
   by_cases d:O.blt (Kp key p k) (Kp key p ((l+r) / 2))=true
   ·rw[if_pos d]
    exact Zcn hp hk hs f l ((l+r) / 2) (by omega) (by omega) (by omega) h1 fun i a b=>KeyOrd.kle_trans (KeyOrd.kle_of_klt d) (hs _ i a b)
   ·rw[if_neg d]
    exact Zcn hp hk hs f ((l+r) / 2+1) r (by omega) hr (by omega) (fun i a=>KeyOrd.kle_trans (hs i ((l+r) / 2) (by omega) (by omega)) (KeyOrd.kle_of_not_klt d)) h2
theorem Zid:∀(f:Nat) (p:Array Nat) (k:Nat),Pm n p→k+f=n→Srt key p k→Good (ltOf O key) n (fun q=>Pm n q∧Srt key q n) (kas_bin f p k)
 |0,p,k,hp,hk,hs=>⟨hp,by(have:k=n:=hk);rw[←this];exact hs⟩
 |f+1,p,k,hp,hk,hs=>by
  refine Good.bind (fun l h=>?_) (Zcn hp (by omega) hs k 0 k (Nat.zero_le _) (Nat.le_refl _) (by omega) (fun i hi=>absurd hi (Nat.not_lt_zero _)) fun i a b=>absurd b (by omega))
  obtain⟨hl,a,b⟩:=h
  have hsz:k<p.size:=by rw[hp.size];omega
  refine Zid f (bubble p k (k- l)) (k+1) (hp.bub _ _) (by omega) fun i j hij hj=>?_
  rw[Zob hsz (by omega),Zob hsz (by omega)]
  have e:k- (k- l)=l:=by omega
  rw[e]
  by_cases i1:i=l
  ·rw[if_pos i1]
   by_cases j1:j=l
   ·rw[if_pos j1];exact KeyOrd.kle_refl _
   ·rw[if_neg j1,if_pos (by omega)]
    exact b (j- 1) (by omega) (by omega)
  ·rw[if_neg i1]
   by_cases i2:l<i∧i≤k
   ·rw[if_pos i2,if_neg (by omega),if_pos (by omega)]
    exact hs _ _ (by omega) (by omega)
   ·rw[if_neg i2]
    by_cases j1:j=l
    ·rw[if_pos j1];exact a i (by omega)
    ·rw[if_neg j1]
     by_cases j2:l<j∧j≤k
     ·rw[if_pos j2];exact hs _ _ (by omega) (by omega)
     ·rw[if_neg j2];exact hs _ _ hij (by omega)
theorem Zga(h1:1≤n):Good (ltOf O key) n (fun q=>Pm n q∧Srt key q n) (kas_sort n):=by
 refine Good.bind (fun r h=>?_) (Zi5 (key:=key) (Array.Perm.refl _) h1)
 obtain⟨a,b,c,d⟩:=h
 by_cases hr:r.1<n
 ·rw[if_pos hr]
  have e:max r.1 1=r.1:=by omega
  rw[e]
  exact Zid _ _ _ a (by omega) d
 ·rw[if_neg hr]
  have:r.1=n:=by omega
  exact⟨a,by rw[this]at d;exact d⟩
end
end TX
namespace TX
open PySem PySem.SeqAt
open AutoSeq1 (wpAny_loadPart')
open MeetsSeq MeetsSeq2 MeetsSeq3 SeqRoads2
noncomputable def LtAt(A:Around)(s:Shared)(y x:Value)(b:Bool):Prop:=
 ∀(prog:Program) (w:World) (E:Value→Shared→Prop) (Q:Value→Shared→Prop),Q (.bool b) s→wpAny (model prog w) A (richCompare .Lt y x) Q E s
noncomputable def lexA(fin:Bool)(e l:Nat→Bool):Nat→Nat→Bool
 |0,_=>fin
 |k+1,i=>if e i=true then lexA fin e l k (i+1)else l i
theorem Zlc(l b:Addr)(items items2:Array Value)(n n2:Nat)(dd dd2:Option Addr)(sl sl2:Array (Option Value))(e lt:Nat→Bool)(k:Nat):
  ∀i:Nat,(∀j,j<i→e j=true)→min items.size items2.size- i=k→Meets (Builtin.«list.__eq__.loop» ⟨[.ref l,.ref b,rawInt i,rawInt 0],[]⟩)
   (fun A R s=>s.heap.get? l=some {cls:=.type "list",dict:=dd,data:=.seq items n,slots:=sl}∧s.heap.get? b=some {cls:=.type "list",dict:=dd2,data:=.seq items2 n2,slots:=sl2}∧
    (∀j (h1:j<items.size) (h2:j<items2.size),(∀i,i<j→e i=true)→EqAt A.in1 s items[j] items2[j] (e j))∧(∀j (h1:j<items.size) (h2:j<items2.size),(∀i,i<j→e i=true)→e j=false→LtAt A.in1 s items[j] items2[j] (lt j))∧
    R (.ok (.ret (.bool (lexA (decide (items.size<items2.size)) e lt k i)))) s):=by
 induction k with
 |zero=>
  intro i hpre hk prog w A R s h
  obtain⟨hp,g,d,tk,os⟩:=s;obtain⟨hl,hb,he,ht,h⟩:=h
  wp_walk using wpAny_loadPart' hl,wpAny_loadPart' hb
  have hi:items[((i:Nat):Int).toNat]? =none∨items2[((i:Nat):Int).toNat]? =none:=by
   rcases Nat.lt_or_ge i items.size with z|z
   ·right;simp;omega
   ·left;simp;omega
  rcases h1:items[((i:Nat):Int).toNat]? with _|x
  ·wp_walk using wpAny_loadPart' hl,wpAny_loadPart' hb
   exact h
  ·rcases hi with hi|hi
   ·rw[h1]at hi;cases hi
   ·rw[hi]
    wp_walk using wpAny_loadPart' hl,wpAny_loadPart' hb
    exact h
 |succ k ih=>
  intro i hpre hk prog w A R s h
  obtain⟨hp,g,d,tk,os⟩:=s;obtain⟨hl,hb,he,ht,h⟩:=h
  wp_walk using wpAny_loadPart' hl,wpAny_loadPart' hb
  have hlt:i<items.size:=by omega
  have hlt2:i<items2.size:=by omega
  have hi1:items[((i:Nat):Int).toNat]? =some items[i]:=by simp[hlt]
  have hi2:items2[((i:Nat):Int).toNat]? =some items2[i]:=by simp[hlt2]
  have hc:((i:Int)+1)=((i+1:Nat):Int):=by push_cast;rfl
  rw[hi1,hi2]
  refine wpAny_bind (he i hlt hlt2 hpre prog w _ _ ?_)
  cases hb':e i with
  |true=>
   have h':R (.ok (.ret (.bool (lexA (decide (items.size<items2.size)) e lt k (i+1))))) ⟨hp,g,d,tk,os⟩:=by
    have z:=h
    unfold lexA at z
    rw[if_pos hb']at z
    exact z
   wp_walk
   rw[hc]
   exact⟨plainId_quiet plain_eq_loop _,codeAny_builtin entry_eq_loop (by
    rw[Around.under_plainId plain_eq_loop _]
    exact ih (i+1) (fun j hj=>by
     rcases Nat.lt_or_ge j i with z|z
     ·exact hpre j z
     ·have:j=i:=by omega
      rw[this];exact hb') (by omega) prog w A R _ ⟨hl,hb,he,ht,h'⟩)⟩
  |false=>
   have h':R (.ok (.ret (.bool (lt i)))) ⟨hp,g,d,tk,os⟩:=by
    have z:=h
    unfold lexA at z
    rw[if_neg (by rw[hb'];simp)]at z
    exact z
   wp_walk using wpAny_loadPart' hl,wpAny_loadPart' hb
   rw[hi1,hi2]
   refine wpAny_bind (ht i hlt hlt2 hpre hb' prog w _ _ ?_)
   wp_walk
   exact h'
theorem Zgb(l b:Addr)(items items2:Array Value)(n n2:Nat)(dd dd2:Option Addr)(sl sl2:Array (Option Value))(e lt:Nat→Bool):
  Meets (Builtin.«list.__lt__» ⟨[.ref l,.ref b],[]⟩)
   (fun A R s=>s.heap.get? l=some {cls:=.type "list",dict:=dd,data:=.seq items n,slots:=sl}∧s.heap.get? b=some {cls:=.type "list",dict:=dd2,data:=.seq items2 n2,slots:=sl2}∧
    (∀j (h1:j<items.size) (h2:j<items2.size),(∀i,i<j→e i=true)→EqAt A.in1 s items[j] items2[j] (e j))∧(∀j (h1:j<items.size) (h2:j<items2.size),(∀i,i<j→e i=true)→e j=false→LtAt A.in1 s items[j] items2[j] (lt j))∧
    R (.ok (.ret (.bool (lexA (decide (items.size<items2.size)) e lt (min items.size items2.size) 0)))) s):=by
 intro prog w A R s h
 obtain⟨hp,g,d,tk,os⟩:=s;obtain⟨hl,hb,he,ht,h⟩:=h
 have f3:=AutoSeq1.sub_list_list
 wp_walk using wpAny_loadPart' hl,wpAny_loadPart' hb
 exact⟨plainId_quiet plain_eq_loop _,codeAny_builtin entry_eq_loop (by
  rw[Around.under_plainId plain_eq_loop _]
  exact Zlc l b items items2 n n2 dd dd2 sl sl2 e lt _ 0 (fun j hj=>absurd hj (Nat.not_lt_zero _)) rfl prog w A R _ ⟨hl,hb,he,ht,h⟩)⟩
theorem Zi6(l b:Addr)(items items2:Array Value)(n n2:Nat)(dd dd2:Option Addr)(sl sl2:Array (Option Value))(e lt:Nat→Bool):
  Meets (Builtin.«tuple.__lt__» ⟨[.ref l,.ref b],[]⟩)
   (fun A R s=>s.heap.get? l=some {cls:=.type "tuple",dict:=dd,data:=.seq items n,slots:=sl}∧s.heap.get? b=some {cls:=.type "tuple",dict:=dd2,data:=.seq items2 n2,slots:=sl2}∧
    (∀j (h1:j<items.size) (h2:j<items2.size),(∀i,i<j→e i=true)→EqAt A.in1 s items[j] items2[j] (e j))∧(∀j (h1:j<items.size) (h2:j<items2.size),(∀i,i<j→e i=true)→e j=false→LtAt A.in1 s items[j] items2[j] (lt j))∧
    R (.ok (.ret (.bool (lexA (decide (items.size<items2.size)) e lt (min items.size items2.size) 0)))) s):=
 .of_wp fun prog w A R s h=>by
  obtain⟨hp,g,d,tk,os⟩:=s;obtain⟨hl,hb,he,ht,h⟩:=h
  have f2:=AutoSeq1.sub_tuple_tuple
  have hZ:(items.toList.zip items2.toList).length=min items.size items2.size:=by simp
  wp_walk using wpAny_loadPart' hl,wpAny_loadPart' hb,wpAny_forIn_list _ (fun rest b s'=>b.1=none∧s'=⟨hp,g,d,tk,os⟩∧∃i,rest=(items.toList.zip items2.toList).drop i∧(∀j,j<i→e j=true)∧
   R (.ok (.ret (.bool (lexA (decide (items.size<items2.size)) e lt (min items.size items2.size- i) i)))) ⟨hp,g,d,tk,os⟩) _
  case turn=>
   rintro⟨y,x⟩ rest b s' ⟨hb',rfl,i,hz,hpre,hR⟩
   have hlt:i<(items.toList.zip items2.toList).length:=by
    rcases Nat.lt_or_ge i (items.toList.zip items2.toList).length with h'|h'
    ·exact h'
    ·rw[List.drop_of_length_le h']at hz;cases hz
   have hm:i<min items.size items2.size:=hZ▸hlt
   have h1:i<items.size:=Nat.lt_of_lt_of_le hm (Nat.min_le_left _ _)
   have h2:i<items2.size:=Nat.lt_of_lt_of_le hm (Nat.min_le_right _ _)
   rw[List.drop_eq_getElem_cons hlt]at hz
   injection hz with hyx hrest
   have hy:y=items[i]:=by have:=congrArg Prod.fst hyx;simpa using this
   have hx:x=items2[i]:=by have:=congrArg Prod.snd hyx;simpa using this
   subst hy hx
   have hk:min items.size items2.size- i=(min items.size items2.size- (i+1))+1:=by omega
   rw[hk]at hR
   unfold lexA at hR
   refine wpAny_bind (he i h1 h2 hpre prog w _ _ ?_)
   cases hy:e i with
   |true=>
    rw[if_pos hy]at hR
    wp_walk
    exact⟨rfl,rfl,i+1,hrest,fun j hj=>by
     rcases Nat.lt_or_ge j i with z|z
     ·exact hpre j z
     ·have:j=i:=by omega
      rw[this];exact hy,hR⟩
   |false=>
    rw[if_neg (by rw[hy];simp)]at hR
    simp only[Bool.not_false,if_true]
    refine wpAny_bind (wpAny_rule (wpAny_bind (ht i h1 h2 hpre hy prog w _ _ ?_)))
    wp_walk
    exact⟨_,rfl,hR⟩
  case fin=>
   rintro⟨b1,b2⟩ s' ⟨hb',rfl,i,hz,hpre,hR⟩
   simp only at hb'
   subst hb'
   have hge:min items.size items2.size≤i:=by
    rcases Nat.lt_or_ge i (items.toList.zip items2.toList).length with h'|h'
    ·rw[List.drop_eq_getElem_cons h']at hz;cases hz
    ·exact hZ▸h'
   have hk:min items.size items2.size- i=0:=by omega
   rw[hk]at hR
   wp_walk
   exact⟨_,rfl,hR⟩
  case h=>
   exact⟨rfl,rfl,0,rfl,fun j hj=>absurd hj (Nat.not_lt_zero _),by simpa using h⟩
section
variable{A:Around}{s:Shared}
theorem LtAt.lists{l b:Addr}{items items2:Array Value}{e lt:Nat→Bool}(hl:s.heap.IsList l items)(hb:s.heap.IsList b items2)(hu:A.units<cLine)
  (he:∀j (h1:j<items.size) (h2:j<items2.size),(∀i,i<j→e i=true)→EqAt A.in1 s items[j] items2[j] (e j)) (ht:∀j (h1:j<items.size) (h2:j<items2.size),(∀i,i<j→e i=true)→e j=false→LtAt A.in1 s items[j] items2[j] (lt j)):
  LtAt A s (.ref l) (.ref b) (lexA (decide (items.size<items2.size)) e lt (min items.size items2.size) 0):=fun prog w E Q h=>by
 obtain⟨⟨cls,dd,data,sl⟩,ho,hc,n,hd⟩:=id hl
 obtain⟨⟨cls2,dd2,data2,sl2⟩,ho2,hc2,n2,hd2⟩:=id hb
 simp only at hc hd hc2 hd2
 subst hc hd hc2 hd2
 exact richCompare_meets_room (op:=.Lt) ⟨_,ho,rfl⟩ ⟨_,ho2,rfl⟩ F.slot_list_lt F.entry_list_lt (F.args_list_lt_2 _ _) (Zgb l b items items2 n n2 dd dd2 sl sl2 e lt)
  ⟨ho,ho2,he,ht,show Value.bool (lexA (decide (items.size<items2.size)) e lt (min items.size items2.size) 0)≠Value.notImplemented∧Q (.bool (lexA (decide (items.size<items2.size)) e lt (min items.size items2.size) 0)) s from⟨(fun x=>nomatch x),h⟩⟩ hu
theorem LtAt.tuples{l b:Addr}{items items2:Array Value}{e lt:Nat→Bool}(hl:s.heap.IsTuple l items)(hb:s.heap.IsTuple b items2)(hu:A.units<cLine)
  (he:∀j (h1:j<items.size) (h2:j<items2.size),(∀i,i<j→e i=true)→EqAt A.in1 s items[j] items2[j] (e j)) (ht:∀j (h1:j<items.size) (h2:j<items2.size),(∀i,i<j→e i=true)→e j=false→LtAt A.in1 s items[j] items2[j] (lt j)):
  LtAt A s (.ref l) (.ref b) (lexA (decide (items.size<items2.size)) e lt (min items.size items2.size) 0):=fun prog w E Q h=>by
 obtain⟨⟨cls,dd,data,sl⟩,ho,hc,n,hd⟩:=id hl
 obtain⟨⟨cls2,dd2,data2,sl2⟩,ho2,hc2,n2,hd2⟩:=id hb
 simp only at hc hd hc2 hd2
 subst hc hd hc2 hd2
 exact richCompare_meets_room (op:=.Lt) ⟨_,ho,rfl⟩ ⟨_,ho2,rfl⟩ F.slot_tuple_lt F.entry_tuple_lt (F.args_tuple_lt_2 _ _) (Zi6 l b items items2 n n2 dd dd2 sl sl2 e lt)
  ⟨ho,ho2,he,ht,show Value.bool (lexA (decide (items.size<items2.size)) e lt (min items.size items2.size) 0)≠Value.notImplemented∧Q (.bool (lexA (decide (items.size<items2.size)) e lt (min items.size items2.size) 0)) s from⟨(fun x=>nomatch x),h⟩⟩ hu
noncomputable def Zdx(A:Around)(s:Shared)(y x:Value)(b:Bool):Prop:=
 ∀(prog:Program) (w:World) (E:Value→Shared→Prop) (Q:Bool→Shared→Prop),Q b s→wpAny (model prog w) A (PyProof.Rows.oneLt' true y x) Q E s
theorem Zdx.lists{l b:Addr}{items items2:Array Value}{e lt:Nat→Bool}(hl:s.heap.IsList l items)(hb:s.heap.IsList b items2)(hu:A.units<cLine)
  (he:∀j (h1:j<items.size) (h2:j<items2.size),(∀i,i<j→e i=true)→EqAt A.in1 s items[j] items2[j] (e j)) (ht:∀j (h1:j<items.size) (h2:j<items2.size),(∀i,i<j→e i=true)→e j=false→LtAt A.in1 s items[j] items2[j] (lt j)):
  Zdx A s (.ref l) (.ref b) (lexA (decide (items.size<items2.size)) e lt (min items.size items2.size) 0):=fun prog w E Q h=>by
 obtain⟨⟨cls,dd,data,sl⟩,ho,hc,n,hd⟩:=id hl
 obtain⟨⟨cls2,dd2,data2,sl2⟩,ho2,hc2,n2,hd2⟩:=id hb
 simp only at hc hd hc2 hd2
 subst hc hd hc2 hd2
 rw[PyProof.Rows.oneLt'_eq]
 simp only[if_true]
 refine wpAny_bind (wpAny_cRoomFor hu ?_)
 refine wpAny_bind (wpAny_callSpecialIfBound?_slot ⟨_,ho,rfl⟩ F.slot_list_lt (call_meets F.slot_list_lt ⟨_,ho,rfl⟩ F.entry_list_lt (F.args_list_lt_2 _ _) (Zgb l b items items2 n n2 dd dd2 sl sl2 e lt) ⟨ho,ho2,he,ht,?_⟩))
 exact wpAny_truthy_bool h
theorem Zdx.int(a:Int)(t:Tok)(b:Int)(u:Tok):Zdx A s (.int a t) (.int b u) (decide (a<b)):=fun prog w E Q h=>PyProof.Rows.oneLt_int h
theorem Zdx.str(a:Str)(t:Tok)(b:Str)(u:Tok):Zdx A s (.str a t) (.str b u) (decide (a.cps.toList<b.cps.toList)):=fun prog w E Q h=>PyProof.Rows.oneLt_str h
theorem LtAt.int(a:Int)(t:Tok)(b:Int)(u:Tok):LtAt A s (.int a t) (.int b u) (decide (a<b)):=fun prog w E Q h=>wpAny_lt_int h
theorem LtAt.str(a:Str)(t:Tok)(b:Str)(u:Tok):LtAt A s (.str a t) (.str b u) (decide (a.cps.toList<b.cps.toList)):=fun prog w E Q h=>PySem.P.lt_str h
end
end TX
namespace TX
open PySem PySem.Spec PyProof.Rows L2
open PySem.W (kla_fn kla_obj kla_callFunE kla_codeExpr envX)
structure LamS(x:Str)(fs:List Str)(sc:Scope):Prop where
 kind:sc.kind= .function
 co:sc.isCoroutine=false
 gen:sc.isGenerator=false
 par:sc.names.lookup x=some .local
 nocell:∀y∈sc.names,y.2≠.cell
 nd:x∉fs
noncomputable abbrev envL(qual:Str)(sc:Scope)(L f:Addr)(c:Addr)(cl:List (Str×Addr)):Env:=envX qual sc L f (.ref c) cl
noncomputable def cxL(X:Cx)(N:List Str)(qual:Str)(sc:Scope)(f c:Addr)(cl:List (Str×Addr))(A:Around)(s:Shared)(H:Hp):Cx where
 prog:=X.prog
 w:=X.w
 K:=X.K
 mg:=X.mg
 base:=X.base
 A:=A.deeper (envL qual sc s.heap.objs.size f c cl)
 N:=N
 s₀:=s
 H₀:=H
 env:=envL qual sc s.heap.objs.size f c cl
 outer:=X.stack
 stack:=envL qual sc s.heap.objs.size f c cl::X.stack
 ex:=[]
 calm:=true
 fn:=fun _=>false
 pn:=[]
 xe:=fun _ _=>False
section
variable{X:Cx}{pins:List (Addr×Obj)}{σ:L2.St}{H:Hp}{s:Shared}
theorem Zp5{x:Str}{fs:List Str}{qual:Str}{sc:Scope}{f c:Addr}{cl:List (Str×Addr)}{A:Around}{h1:Heap}{tk:Nat}{v:V}{u:Value}{ws:List (Option V)}
  (S:LamS x fs sc) (hd:A.handled=none) (hA:A.frames=some X.stack) (I:Inv X pins σ H s) (hcl:∀y c,cl.lookup y=some c→X.env.cells.lookup y=some c) (has:∀y,sc.names.lookup y=some .free→∃c,cl.lookup y=some c)
  (hws:ws.length=fs.length) (hσ:∀(i:Nat) (y:Str) (w:V),fs[i]? =some y→ws[i]? =some (some w)→∃j:Nat,X.N[j]? =some y∧σ[j]? =some (some w)∧X.env.scope.names.lookup y=some .cell∧sc.names.lookup y=some .free) (r:RelV v u)
  (hns:h1.Ns s.heap.objs.size (fun y=>[(x,u)].reverse.lookup y)) (hsb:Heap.SameBut s.heap.objs.size (s.heap.push {cls:=.type "frame",data:=.dict #[]}) h1):
  Inv (cxL X (x::fs) qual sc f c cl A s H) [] (some v::ws) H {s with heap:=h1,toks:=tk}:=by
 have hk:∀b o,s.heap.get? b=some o→h1.get? b=some o:=fun b o e=>(hsb.2 b (Nat.ne_of_lt (Heap.lt_size e))).trans (Heap.get?_push_of_some _ e)
 have noA:∀b:Addr,b∉(cxL X (x::fs) qual sc f c cl A s H).ex:=fun b z=>absurd (show b∈([]:List Addr)from z) (by simp)
 have e0:=I.env0
 refine⟨⟨e0.mod,S.kind,rfl,rfl,Nat.le_refl _,fun y z c h1 h2=>I.ok.inj y z c (hcl y c h1) (hcl z c h2),fun y hy=>?_,(fun y c h=>nomatch h),fun _=>hd,Around.frames_deeper hA,.inr ⟨rfl,rfl⟩,fun b z=>absurd z (noA b),e0.bs,e0.bsz,fun b _ _=>noA b,fun b z=>absurd z (noA b),e0.funs,e0.frf⟩,
  rfl,e0.bare,Un.kept hk,⟨_,hns,fun i y w h1 h2 h3=>?_⟩,fun y c h=>?_,e0.hok.fresh (Nat.le_refl _),fun y c h=>I.freeC y c (hcl y c h),fun p hp=>absurd (show p∈([]:List (Addr×Obj))from hp) (by simp),e0.hok.kept hk,by show(some v::ws).length=(x::fs).length;rw[List.length_cons,List.length_cons,hws]⟩
 ·have hy:sc.names.lookup y=some .cell∨sc.names.lookup y=some .free:=hy
  rcases hy with hy|hy
  ·exact absurd rfl (S.nocell _ (PySem.mem_of_lookup hy))
  ·exact has y hy
 ·cases i with
  |zero=>
   obtain rfl:x=y:=by simpa[cxL]using h1
   obtain rfl:v=w:=by simpa using h2
   exact⟨u,r,.inl ⟨S.par,by simp⟩⟩
  |succ i=>
   have h1:fs[i]? =some y:=by simpa[cxL]using h1
   have h2:ws[i]? =some (some w):=by simpa using h2
   obtain⟨j,a1,a2,a3,a4⟩:=hσ i y w h1 h2
   obtain⟨m,_,hl⟩:=I.loc
   obtain⟨u',r',lk⟩:=hl j y w a1 a2 (.inr (.inl a3))
   obtain⟨cc,ec⟩:=has y a4
   refine⟨u',r',.inr ⟨.inr a4,cc,ec,?_⟩⟩
   rcases lk with⟨k,_⟩|⟨_,c',e1,z⟩
   ·have k:X.env.scope.names.lookup y=some .local:=k
    rw[a3]at k;cases k
   ·rw[hcl y cc ec]at e1
    cases e1
    obtain⟨o,z1,z2⟩:=z
    exact⟨o,hk _ _ z1,z2⟩
 ·obtain⟨w,o,z1,z2⟩:=I.cell y c (hcl y c h)
  exact⟨w,o,hk _ _ z1,z2⟩
theorem Znc{x:Str}{fs:List Str}{name qual:Str}{params:Arguments}{body:Expr}{sc:Scope}{f c:Addr}{cl:List (Str×Addr)}{pm ctv:Value}{A:Around}{v:V}{u:Value}{ws:List (Option V)}{Q:VK}{t:TE}
  (S:LamS x fs sc) (hr:Room 1 A) (hA:A.frames=some X.stack) (I:Inv X pins σ H s) (ho:s.heap.get? f=some (kla_obj name qual params body sc cl pm c ctv)) (hcd:s.heap.CodeRec (.ref c) qual)
  (hbind:bindArgs (kla_fn name qual params body sc cl pm (.ref c) ctv) ⟨[u],[]⟩=pure [(x,u)])
  (hcl:∀y c,cl.lookup y=some c→X.env.cells.lookup y=some c) (has:∀y,sc.names.lookup y=some .free→∃c,cl.lookup y=some c)
  (hws:ws.length=fs.length) (hσ:∀(i:Nat) (y:Str) (w:V),fs[i]? =some y→ws[i]? =some (some w)→∃j:Nat,X.N[j]? =some y∧σ[j]? =some (some w)∧X.env.scope.names.lookup y=some .cell∧sc.names.lookup y=some .free) (r:RelV v u)
  (hb:PE (cxL X (x::fs) qual sc f c cl A s H) body t) (ht:t (some v::ws) H Q):
  wpAny (model X.prog X.w) A (call (.ref f) [u]) (fun u' s'=>CE X.stack X.prog X.w H s Q u' s') (fun _ _=>False) s:=by
 refine wpAny_call ?_
 refine kla_callFunE hr.depth ho rfl S.co S.gen rfl hcd ?_
 rw[hbind]
 refine wpAny_pure (wpAny_newFunctionEnv (fun y hy=>S.nocell y hy) (fun y hy=>?_) (fun h1 hns hsb=>⟨?_,?_⟩) S.kind)
 ·have hy:y=(x,u):=by simpa using hy
  subst hy
  exact S.par
 ·exact(I.nolimit).fresh _ hsb
 ·show codeAny _ _ (.expr body (envL qual sc s.heap.objs.size f c cl)) _ _
  refine kla_codeExpr ?_
  have J:=Zp5 (tk:=s.toks+[(x,u)].length) (f:=f) (c:=c) (qual:=qual) S hr.hd hA I hcl has hws hσ r hns hsb
  refine wpAny_mono (hb [] _ _ H Q J ht) (fun u' s' hs=>?_) fun e s' hs=>hs.elim
  obtain⟨v',H',J',rv,q⟩:=hs
  exact⟨v',H',J'.os,J'.bare,J'.base,J'.hok,rv,q⟩
end
end TX
namespace TX
open PySem PySem.Spec PyProof.Rows L2
open PySem.W (kla_fn kla_obj kla_eval kla_makeFunction kla_makeFunctionHit CodeHd tabObj)
theorem Zi7{p:Pos}{a b:Int}{c cv:Value}(l:List Value)(h:TriplesOk l)(e:codeAmong p (l++[rawInt a,rawInt b,c])=some cv):codeAmong p l=some cv∨cv=c:=by
 fun_induction TriplesOk l with
 |case1=>
  right
  simp only[List.nil_append,codeAmong,rawInt]at e
  split at e
  ·exact(Option.some.inj e).symm
  ·cases e
 |case2 a t b u x rest ih=>
  simp only[List.cons_append,codeAmong]at e⊢
  split at e
  ·rename_i z;rw[if_pos z];exact .inl e
  ·rename_i z;rw[if_neg z];exact ih h e
 |case3=>exact h.elim
noncomputable def BMain(mg:Str→Option Value)(h:Heap):Prop:=∃bm ob,mg "__builtins__"=some (.ref bm)∧bm≠builtinsNs∧h.get? bm=some ob∧ob.cls= .type "module"∧ob.dict=some builtinsNs∧ob.data= .plain
noncomputable def IsCd(o:Obj)(q:Str):Prop:=∃vs t,o.data= .fields vs∧vs[1]? =some (.str q t)
theorem Ztj{P:Program}{w:World}{H:Hp}{h:Heap}(ok:HOk P w H h){c p:Addr}{o:Obj}{q:Str}(e:H c=some (.frz o (.own p)))(x:IsCd o q):h.CodeRec (.ref c) q:=
 let⟨vs,t,a,b⟩:=x;⟨c,o,vs,t,rfl,(ok c _ e).1,a,b⟩
section
variable{X:Cx}{pins:List (Addr×Obj)}{σ:L2.St}{H:Hp}{s:Shared}
theorem Znd{M:Model}{A:Around}{E:Value→Shared→Prop}{Q:Value→Shared→Prop}{params:Arguments}{body:Expr}{sc:Scope}{pos:Pos}{clos:List (Str×Addr)}{c P:Addr}{q:Str}
  (I:Inv X pins σ H s) (hcode:X.env.code= .ref c) (C:CodeHd X.base c P) (hT:H P=some (.tab q)) (hq:X.env.qual++ "<lambda>"=q) (B:BMain X.mg X.base) (hcl:closureFor sc X.env=pure clos) (hdef:defaultsOf params X.env=([],[]))
  (h:∀f c' pm ctv oc H' s',Same H H'→FpOk X pins H' f→Inv X pins σ H' s'→s'.heap.get? f=some (kla_obj "<lambda>" q params body sc clos pm c' ctv)→H' c'=some (.frz oc (.own P))→IsCd oc q→Q (.ref f) s'):
  wpAny M A (eval (.Lambda params body sc pos) X.env) Q E s:=by
 refine kla_eval hdef ?_
 rw[hq]
 obtain⟨ps,e,t,cs⟩:=I.hok P _ hT
 have hgs:s.heap.Ns mainGlobals X.mg:=I.ok.mod.glob.keeps I.bk
 have hgP:mainGlobals≠P:=fun z=>by
  obtain⟨o,es,ep,eo,hd,_⟩:=hgs
  rw[z,e]at eo;cases eo;cases hd
 obtain⟨bm,ob,b1,b2,b3,b4,b5,b6⟩:=B
 have hbP:bm≠P:=fun z=>by
  have eo:=I.bk _ _ b3
  rw[z,e]at eo;cases eo;cases b4
 have hbG:bm≠mainGlobals:=fun z=>by
  obtain⟨o,es,ep,eo,hd,_⟩:=I.ok.mod.glob
  rw[z,eo]at b3;cases b3;rw[hd]at b6;cases b6
 have hB:s.heap.BuiltinsAt X.mg P:=⟨bm,ob,b1,b2,hbG,hbP,I.bk _ _ b3,b4,b5,b6⟩
 have C':CodeHd s.heap c P:=C.keeps I.bk
 cases hf:codeAmong pos ps.toList with
 |some cv=>
  obtain⟨c',oc,vs',tc,rfl,ho,hod,hov⟩:=cs pos cv hf
  refine kla_makeFunctionHit (mg:=X.mg) hcl I.ok.glob hgs hcode C' e t hf hB fun ctv h' tk hk hsz=>?_
  exact h _ c' _ ctv oc H _ (Same.refl H) (I.fpOk hsz (I.hok.fresh hsz)) (I.kept fun b u z=>Heap.get?_push_of_some _ (hk b u z)) (Heap.get?_push_size _ rfl) ho ⟨vs',tc,hod,hov⟩
 |none=>
  refine kla_makeFunction (mg:=X.mg) hcl I.ok.glob hgs hcode C' e t hf hgP hB fun c' ctv h' tk hx hge hlt hrec htb=>?_
  have hn:H c'=none:=I.hok.fresh hge
  have hPc:P≠c':=Nat.ne_of_lt (Nat.lt_of_lt_of_le (Heap.lt_size e) hge)
  obtain⟨c2,oc,vsc,tc,e1,e2,e3,e4⟩:=hrec
  cases e1
  have sm:Same H (upd H c' (.frz oc (.own P))):=fun b o z=>by rw[Zl (Zu z hn)];exact z
  have neP:∀b,H b=none→b≠P:=fun b z y=>by rw[y,hT]at z;cases z
  have kp:∀b o,b≠P→s.heap.get? b=some o→(h'.push (kla_obj "<lambda>" q params body sc clos ((X.mg "__name__").getD .none) c' ctv)).get? b=some o:=fun b o nb z=>Heap.get?_push_of_some _ (hx b o nb z)
  have hP':(h'.push (kla_obj "<lambda>" q params body sc clos ((X.mg "__name__").getD .none) c' ctv)).get? P=some (tabObj (ps++ #[rawInt pos.line,rawInt pos.col,.ref c'])):=Heap.get?_push_of_some _ htb
  have hoc:(h'.push (kla_obj "<lambda>" q params body sc clos ((X.mg "__name__").getD .none) c' ctv)).get? c'=some oc:=Heap.get?_push_of_some _ e2
  refine h _ c' _ ctv oc (upd H c' (.frz oc (.own P))) _ sm ?_ (I.un (t':=tk) ⟨fun b o z n _ _=>kp b o (neP b n) z,fun b o z n _ _=>⟨o.slots,kp b o (neP b n) z⟩,fun b o z n _=>?_,fun b o z _=>?_,fun b xs z=>sm _ _ z,fun b o u z=>sm _ _ z,fun b qs z=>⟨#[],by rw[sm _ _ z];simp⟩⟩ fun b u z=>?_) (Heap.get?_push_size _ rfl) Zv ⟨vsc,tc,e3,e4⟩
  ·refine I.fpOk (Nat.le_of_lt (Nat.lt_of_le_of_lt hge hlt)) ?_
   rw[Zl (Nat.ne_of_gt hlt)]
   exact I.hok.fresh (Nat.le_of_lt (Nat.lt_of_le_of_lt hge hlt))
  ·rw[Zl (Nat.ne_of_lt (Nat.lt_of_lt_of_le (Heap.lt_size z) hge))]
   exact n
  ·by_cases hb:b=P
   ·subst hb;exact⟨_,hP'⟩
   ·exact⟨o,kp b o hb z⟩
  ·by_cases hbc:b=c'
   ·subst hbc
    rw[Zv]at z
    cases z
    exact⟨hoc,oc,hoc⟩
   ·rw[Zl hbc]at z
    by_cases hbP:b=P
    ·subst hbP
     rw[hT]at z
     cases z
     refine⟨_,hP',?_,fun p2 cv z=>?_⟩
     ·have:=TriplesOk_snoc pos.line pos.col (.ref c') _ t
      simpa using this
     ·have z:codeAmong p2 (ps.toList++[rawInt pos.line,rawInt pos.col,.ref c'])=some cv:=by simpa using z
      rcases Zi7 _ t z with y|y
      ·obtain⟨c1,o1,vs1,t1,a1,a2,a3⟩:=cs p2 cv y
       exact⟨c1,o1,vs1,t1,a1,sm _ _ a2,a3⟩
      ·exact⟨c',oc,vsc,tc,y,Zv,e3,e4⟩
    ·refine(I.hok b u z).stay (fun d w hd y=>kp d w ?_ y) (fun d y=>sm _ _ y) (fun d xs y=>sm _ _ y) fun d o y=>sm _ _ y
     rcases hd with hd|hd
     ·rw[hd];exact hbP
     ·intro y;rw[y,hT]at hd;cases hd
end
end TX
namespace TX
open PySem PySem.Spec PyProof.Rows L2 DL
open PySem.SeqAt (EqAt)
variable{K:PySem.W.Frag}
@[simp] noncomputable def lexD(eq lt:D→D→Option Bool):List D→List D→Option Bool
 | [],ys=>some (!ys.isEmpty)
 |_::_,[]=>some false
 |x::xs,y::ys=>(eq x y).bind fun b=>if b=true then lexD eq lt xs ys else lt x y
@[simp] noncomputable def Zld(eq lt:D→D→Option Bool):D→D→Option Bool
 | .int i,.int j=>some (decide (i<j))
 | .str a,.str b=>some (decide (a.cps.toList<b.cps.toList))
 | .lst xs,.lst ys=>lexD eq lt xs ys
 | .tup xs,.tup ys=>lexD eq lt xs ys
 |_,_=>none
@[simp] noncomputable def ltD:Nat→D→D→Option Bool
 |0=>fun _ _=>none
 |n+1=>Zld (eqM n) (ltD n)
noncomputable def isT:Option Bool→Bool
 |some true=>true
 |_=>false
noncomputable abbrev eJ(f:D→D→Option Bool)(xs ys:List D)(j:Nat):Bool:=isT (f (xs.getD j .non) (ys.getD j .non))
theorem Zd9{fin:Bool}{e l:Nat→Bool}:∀(k i:Nat),lexA fin e l k (i+1)=lexA fin (fun j=>e (j+1)) (fun j=>l (j+1)) k i
 |0,_=>rfl
 |k+1,i=>by
  show(if e (i+1)=true then lexA fin e l k (i+1+1)else l (i+1))=(if e (i+1)=true then _ else _)
  rw[Zd9 k (i+1)]
theorem Zgc{eq lt:D→D→Option Bool}:∀{xs ys:List D} {b:Bool},lexD eq lt xs ys=some b→
  lexA (decide (xs.length<ys.length)) (eJ eq xs ys) (eJ lt xs ys) (min xs.length ys.length) 0=b∧
  ∀j,j<xs.length→j<ys.length→(∀i,i<j→eJ eq xs ys i=true)→eq (xs.getD j .non) (ys.getD j .non)=some (eJ eq xs ys j)∧(eJ eq xs ys j=false→lt (xs.getD j .non) (ys.getD j .non)=some (eJ lt xs ys j))
 | [],ys,b,h=>by
  refine⟨?_,fun j hj=>absurd hj (Nat.not_lt_zero _)⟩
  obtain rfl:(!ys.isEmpty)=b:=by simpa using h
  cases ys<;> simp[lexA]
 |x::xs,[],b,h=>by
  refine⟨?_,fun j _ hj=>absurd hj (Nat.not_lt_zero _)⟩
  obtain rfl:false=b:=by simpa using h
  simp[lexA]
 |x::xs,y::ys,b,h=>by
  have h:(eq x y).bind (fun b=>if b=true then lexD eq lt xs ys else lt x y)=some b:=h
  obtain⟨c,hc,h2⟩:=Option.bind_eq_some_iff.mp h
  have e0:eJ eq (x::xs) (y::ys) 0=c:=by show isT (eq x y)=c;rw[hc];cases c<;> rfl
  have hm:min (x::xs).length (y::ys).length=min xs.length ys.length+1:=by simp only[List.length_cons];omega
  have hfin:decide ((x::xs).length<(y::ys).length)=decide (xs.length<ys.length):=by simp
  rw[hm,hfin]
  cases c with
  |false=>
   have h2:lt x y=some b:=by simpa using h2
   refine⟨?_,fun j hj1 hj2 hp=>?_⟩
   ·show(if eJ eq (x::xs) (y::ys) 0=true then _ else eJ lt (x::xs) (y::ys) 0)=b
    rw[e0,if_neg (by simp)]
    show isT (lt x y)=b
    rw[h2];cases b<;> rfl
   ·cases j with
    |zero=>
     refine⟨by rw[e0];exact hc,fun _=>?_⟩
     show lt x y=some (isT (lt x y))
     rw[h2];cases b<;> rfl
    |succ j=>
     have:=hp 0 (Nat.succ_pos _)
     rw[e0]at this;cases this
  |true=>
   have h2:lexD eq lt xs ys=some b:=by simpa using h2
   obtain⟨i1,i2⟩:=Zgc h2
   refine⟨?_,fun j hj1 hj2 hp=>?_⟩
   ·show(if eJ eq (x::xs) (y::ys) 0=true then lexA _ _ _ _ (0+1)else eJ lt (x::xs) (y::ys) 0)=b
    rw[e0,if_pos rfl,Zd9]
    exact i1
   ·cases j with
    |zero=>
     refine⟨by rw[e0];exact hc,fun z=>?_⟩
     rw[e0]at z;cases z
    |succ j=>
     exact i2 j (by simpa using hj1) (by simpa using hj2) fun i hi=>hp (i+1) (by omega)
theorem Reps.getD{F:Hp}:∀{ds:List D} {vs:List V} {its:List Value},Reps K F ds vs→Vals vs its→∀(j:Nat) (hj:j<its.length),∃v,Rep K F (ds.getD j .non) v∧RelV v its[j]∧j<ds.length
 |_,_,_,.nil,.nil,j,hj=>absurd hj (Nat.not_lt_zero _)
 |_,_,_,.cons h t,.cons q qs,0,_=>⟨_,h,q,Nat.succ_pos _⟩
 |_,_,_,.cons h t,.cons q qs,j+1,hj=>by
  obtain⟨v,a,b,c⟩:=Reps.getD t qs j (Nat.lt_of_succ_lt_succ hj)
  exact⟨v,a,b,Nat.succ_lt_succ c⟩
theorem Reps.lenV{F:Hp}:∀{ds:List D} {vs:List V} {its:List Value},Reps K F ds vs→Vals vs its→ds.length=its.length
 |_,_,_,.nil,.nil=>rfl
 |_,_,_,.cons h t,.cons q qs=>congrArg (· +1) (Reps.lenV t qs)
section
variable{X:Cx}{pins:List (Addr×Obj)}{σ:L2.St}{F H:Hp}{s:Shared}
theorem Zaq(I:Inv X pins σ H s)(le:Same F H){a:Addr}{vs:List V}(h:SqL X.K F a vs):∃its:List Value,Vals vs its∧s.heap.IsList a its.toArray:=by
 obtain⟨its,rv,⟨o,n,ho,hcl,_,hd⟩,_⟩:=I.list (Zab le h)
 exact⟨its,rv,o,ho,hcl,n,hd⟩
theorem Za7(I:Inv X pins σ H s)(le:Same F H){a:Addr}{vs:List V}(h:F a=some (.tup vs)):∃its:List Value,Vals vs its∧s.heap.IsTuple a its.toArray:=by
 obtain⟨_,its,rv,p⟩:=I.hok a _ (le _ _ h)
 obtain⟨o,ho,hc,n,hd⟩:=p
 exact⟨its,rv,o,ho,hc,n,hd⟩
theorem Zes(I:Inv X pins σ H s)(le:Same F H){n:Nat}{A:Around}(hu:A.units+n<cLine)(ih:∀(d1 d2:D) (b:Bool) (x y:V) (v u:Value),Rep X.K F d1 x→RelV x v→Rep X.K F d2 y→RelV y u→ltD n d1 d2=some b→LtAt A s v u b)
  {ds es:List D} {vs ws:List V} {its jts:List Value} (r1:Reps X.K F ds vs) (rv1:Vals vs its) (r2:Reps X.K F es ws) (rv2:Vals ws jts) {b:Bool} (h:lexD (eqM n) (ltD n) ds es=some b):
  lexA (decide (its.toArray.size<jts.toArray.size)) (eJ (eqM n) ds es) (eJ (ltD n) ds es) (min its.toArray.size jts.toArray.size) 0=b∧
  (∀j (h1:j<its.toArray.size) (h2:j<jts.toArray.size),(∀i,i<j→eJ (eqM n) ds es i=true)→EqAt A s its.toArray[j] jts.toArray[j] (eJ (eqM n) ds es j))∧
  (∀j (h1:j<its.toArray.size) (h2:j<jts.toArray.size),(∀i,i<j→eJ (eqM n) ds es i=true)→eJ (eqM n) ds es j=false→LtAt A s its.toArray[j] jts.toArray[j] (eJ (ltD n) ds es j)):=by
 obtain⟨a,c⟩:=Zgc h
 rw[Reps.lenV r1 rv1,Reps.lenV r2 rv2]at a
 refine⟨by simpa using a,fun j h1 h2 hp=>?_,fun j h1 h2 hp hf=>?_⟩
 ·have h1':j<its.length:=by simpa using h1
  have h2':j<jts.length:=by simpa using h2
  obtain⟨v,p1,p2,p3⟩:=Reps.getD r1 rv1 j h1'
  obtain⟨w,q1,q2,q3⟩:=Reps.getD r2 rv2 j h2'
  exact Zf3 I le n A _ _ _ _ _ _ _ hu p1 (by simpa using p2) q1 (by simpa using q2) (c j p3 q3 hp).1
 ·have h1':j<its.length:=by simpa using h1
  have h2':j<jts.length:=by simpa using h2
  obtain⟨v,p1,p2,p3⟩:=Reps.getD r1 rv1 j h1'
  obtain⟨w,q1,q2,q3⟩:=Reps.getD r2 rv2 j h2'
  exact ih _ _ _ _ _ _ _ p1 (by simpa using p2) q1 (by simpa using q2) ((c j p3 q3 hp).2 hf)
theorem Zie(I:Inv X pins σ H s)(le:Same F H):∀(n:Nat) (A:Around) (d1 d2:D) (b:Bool) (x y:V) (v u:Value),A.units+n<cLine→Rep X.K F d1 x→RelV x v→Rep X.K F d2 y→RelV y u→ltD n d1 d2=some b→LtAt A s v u b
 |0,_,_,_,_,_,_,_,_,_,_,_,_,_,e=>by cases e
 |n+1,A,d1,d2,b,x,y,v,u,hu,r1,v1,r2,v2,e=>by
  have e:Zld (eqM n) (ltD n) d1 d2=some b:=e
  have hi:A.in1.units+n<cLine:=by have:A.in1.units=A.units+1:=rfl;omega
  have ih:=fun(d1 d2:D) (b:Bool) (x y:V) (v u:Value)=>Zie I le n A.in1 d1 d2 b x y v u hi
  cases r1 with
  |int i=>cases r2 with
   |int j=>
    obtain⟨t1,rfl⟩:=v1;obtain⟨t2,rfl⟩:=v2
    obtain rfl:decide (i<j)=b:=by simpa using e
    exact LtAt.int i t1 j t2
   |_=>cases e
  |str i=>cases r2 with
   |str j=>
    obtain⟨t1,rfl⟩:=v1;obtain⟨t2,rfl⟩:=v2
    obtain rfl:decide (i.cps.toList<j.cps.toList)=b:=by simpa using e
    exact LtAt.str i t1 j t2
   |_=>cases e
  |lst h r=>cases r2 with
   |lst h' r'=>
    cases v1;cases v2
    obtain⟨its,rv,hl⟩:=Zaq I le h
    obtain⟨jts,rv',hl'⟩:=Zaq I le h'
    obtain⟨a,c,d⟩:=Zes I le hi ih r rv r' rv' e
    rw[←a]
    exact LtAt.lists hl hl' (by omega) c d
   |_=>cases e
  |tup h r=>cases r2 with
   |tup h' r'=>
    cases v1;cases v2
    obtain⟨its,rv,hl⟩:=Za7 I le h
    obtain⟨jts,rv',hl'⟩:=Za7 I le h'
    obtain⟨a,c,d⟩:=Zes I le hi ih r rv r' rv' e
    rw[←a]
    exact LtAt.tuples hl hl' (by omega) c d
   |_=>cases e
  |_=>cases e
theorem Ztk(I:Inv X pins σ H s)(le:Same F H){n:Nat}{A:Around}{d1 d2:D}{b:Bool}{x y:V}{v u:Value}(hu:A.units+(n+1)<cLine)(r1:Rep X.K F d1 x)(v1:RelV x v)(r2:Rep X.K F d2 y)(v2:RelV y u)
  (e:ltD (n+1) d1 d2=some b) (hn:∀xs,d1≠.tup xs):Zdx A s v u b:=by
 have e:Zld (eqM n) (ltD n) d1 d2=some b:=e
 have hi:A.in1.units+n<cLine:=by have:A.in1.units=A.units+1:=rfl;omega
 have ih:=fun(d1 d2:D) (b:Bool) (x y:V) (v u:Value)=>Zie I le n A.in1 d1 d2 b x y v u hi
 cases r1 with
 |int i=>cases r2 with
  |int j=>
   obtain⟨t1,rfl⟩:=v1;obtain⟨t2,rfl⟩:=v2
   obtain rfl:decide (i<j)=b:=by simpa using e
   exact Zdx.int i t1 j t2
  |_=>cases e
 |str i=>cases r2 with
  |str j=>
   obtain⟨t1,rfl⟩:=v1;obtain⟨t2,rfl⟩:=v2
   obtain rfl:decide (i.cps.toList<j.cps.toList)=b:=by simpa using e
   exact Zdx.str i t1 j t2
  |_=>cases e
 |lst h r=>cases r2 with
  |lst h' r'=>
   cases v1;cases v2
   obtain⟨its,rv,hl⟩:=Zaq I le h
   obtain⟨jts,rv',hl'⟩:=Zaq I le h'
   obtain⟨a,c,d⟩:=Zes I le hi ih r rv r' rv' e
   rw[←a]
   exact Zdx.lists hl hl' (by omega) c d
  |_=>cases e
 |tup h r=>exact absurd rfl (hn _)
 |_=>cases e
end
end TX
namespace TX
open PySem PySem.Spec PyProof.Rows L2 DL
open PySem.W (kas_sort kas_ask kas_item kat_run kat_snds)
section
variable{X:Cx}{pins:List (Addr×Obj)}{σ:L2.St}{H:Hp}{s:Shared}{E:Value→Shared→Prop}
theorem Zet{D:Addr}{o:Obj}{xs ys:Array Value}{n t':Nat}{g:Array Value→Array Value}(I:Inv X pins σ H s)(fD:FpOk X pins H D):Inv X pins σ H {s with heap:=s.heap.update D (Obj.mapSeq g),toks:=t'}:=
 I.turned (fun b o hb e=>by rw[Heap.get?_update_ne _ _ _ _ hb];exact e) fD.1 fD.2.1 fD.2.2.2.1 fD.2.2.2.2.1 fD.2.2.2.2.2
theorem Inv.notStk(I:Inv X pins σ H s){D:Addr}(fD:FpOk X pins H D):D∉frs X.stack:=fun z=>by
 rcases List.mem_cons.mp (I.stkSub D z)with z|z
 ·exact fD.2.1 z
 ·exact fD.2.2.1 z
theorem fpAt{H':Hp}{D:Addr}(fD:FpOk X pins H D)(h:H' D=none):FpOk X pins H' D:=⟨h,fD.2⟩
noncomputable def KS(X:Cx)(pins:List (Addr×Obj))(σ:L2.St)(H0:Hp)(f:Addr)(fo:Obj)(D kS:Addr)(e1:Nat)(KeyOk:Nat→V→Hp→Prop)(i:Nat)(s:Shared):Prop:=
 ∃H ks kvs e,Same H0 H∧Inv X pins σ H s∧FpOk X pins H D∧FpOk X pins H kS∧FpOk X pins H f∧s.heap.get? D=some (seqObj "list" #[] e1)∧s.heap.get? kS=some (seqObj "list" (List.toArray ks) e)∧s.heap.get? f=some fo∧
  Vals kvs ks∧ks.length=i∧∀j kv,kvs[j]? =some kv→KeyOk j kv H
end
end TX
namespace TX
open PySem PySem.Spec PyProof.Rows L2 DL
open PySem.W (kas_sort kas_ask kas_item kat_run kat_snds)
section
variable{X:Cx}{pins:List (Addr×Obj)}{σ:L2.St}{H:Hp}{s:Shared}{E:Value→Shared→Prop}{its:List Value}{f D kS:Addr}{fo:Obj}{e1:Nat}{KeyOk:Nat→V→Hp→Prop}{A:Around}{P:PySem.Fin→Shared→Prop}
noncomputable def Out(X:Cx)(pins:List (Addr×Obj))(σ:L2.St)(H0:Hp)(D:Addr)(out:List Value)(s:Shared):Prop:=
 ∃H c,Same H0 H∧Inv X pins σ H s∧FpOk X pins H D∧s.heap.get? D=some (seqObj "list" (List.toArray out) c)
variable{O:KeyOrd}{key:Nat→O.α}
noncomputable def Cmp(X:Cx)(pins:List (Addr×Obj))(σ:L2.St)(H0:Hp)(A:Around)(KeyOk:Nat→V→Hp→Prop)(O:KeyOrd)(key:Nat→O.α)(n:Nat):Prop:=
 ∀H2 s2 ks kvs,Same H0 H2→Inv X pins σ H2 s2→Vals kvs ks→ks.length=n→(∀j kv,kvs[j]? =some kv→KeyOk j kv H2)→2≤n→
  ∃κ,(∀Q:SortKind→Shared→Prop,Q κ s2→wpAny (model X.prog X.w) A (keyKind' (List.toArray ks)) Q (fun _ _=>False) s2)∧
   ∀i j (Q:Bool→Shared→Prop),i<n→j<n→Q (O.blt (key i) (key j)) s2→wpAny (model X.prog X.w) A (keyLt' κ (ks.getD i .none) (ks.getD j .none)) Q (fun _ _=>False) s2
end
end TX
namespace TX
open PySem PySem.Spec PySem.Calls PyProof.Rows L2 DL
section
variable{X:Cx}{pins:List (Addr×Obj)}{σ:L2.St}{H:Hp}{s:Shared}{E:Value→Shared→Prop}{its:List Value}{f l:Addr}{fo:Obj}{KeyOk:Nat→V→Hp→Prop}{Q:Value→Shared→Prop}{O:KeyOrd}{key:Nat→O.α}
end
end TX
namespace TX
open PySem PySem.Spec PySem.Calls PyProof.Rows L2 DL
open PySem.W (KatLex kat_lt kat_kind KatTups kat_one kat_nil kat_cons kat_yes kat_no)
section
variable{X:Cx}{pins:List (Addr×Obj)}{σ:L2.St}{F H:Hp}{s:Shared}
theorem Zoc(I:Inv X pins σ H s)(le:Same F H){n:Nat}{A:Around}(hu:A.units+(n+1)<cLine){Q:Bool→Shared→Prop}{fin:Bool}:∀{ds es:List D} {vs ws:List V} {its jts:List Value} {b:Bool} (i:Nat),
  Reps X.K F ds vs→Vals vs its→Reps X.K F es ws→Vals ws jts→(i=0→∀d,ds.head? =some d→∀xs,d≠.tup xs)→lexD (eqM (n+1)) (ltD (n+1)) ds es=some b→(its.length=jts.length→fin=false)→(its.length<jts.length→fin=true)→(jts.length<its.length→fin=false)→Q b s→
  KatLex X.prog X.w A true fin Q (its.zip jts) i s
 |_,_,_,_,_,_,b,i,.nil,.nil,.nil,.nil,_,e,f1,_,_,q=>by
  obtain rfl:false=b:=by simpa using e
  show Q fin s
  rw[f1 rfl];exact q
 |_,_,_,_,_,_,b,i,.nil,.nil,.cons _ _,.cons _ _,_,e,_,f2,_,q=>by
  obtain rfl:true=b:=by simpa using e
  show Q fin s
  rw[f2 (by simp)];exact q
 |_,_,_,_,_,_,b,i,.cons _ _,.cons _ _,.nil,.nil,_,e,_,_,f3,q=>by
  obtain rfl:false=b:=by simpa using e
  show Q fin s
  rw[f3 (by simp)];exact q
 |d::ds,d'::es,_,_,_,_,b,i,.cons h t,.cons r rs,.cons h' t',.cons r' rs',hd,e,f1,f2,f3,q=>by
  have e:(eqM (n+1) d d').bind (fun b=>if b=true then lexD (eqM (n+1)) (ltD (n+1)) ds es else ltD (n+1) d d')=some b:=e
  obtain⟨c,hc,e2⟩:=Option.bind_eq_some_iff.mp e
  refine kat_cons (Zf3 I le (n+1) A _ _ _ _ _ _ _ (by omega) h r h' r' hc X.prog X.w _ _ ?_)
  cases c with
  |true=>
   have e2:lexD (eqM (n+1)) (ltD (n+1)) ds es=some b:=by simpa using e2
   exact kat_yes (Zoc I le hu (i+1) t rs t' rs' (fun z=>absurd z (Nat.succ_ne_zero i)) e2 (fun z=>f1 (by simp[z])) (fun z=>f2 (by simpa using z)) (fun z=>f3 (by simpa using z)) q)
  |false=>
   have e2:ltD (n+1) d d'=some b:=by simpa using e2
   refine kat_no ?_
   cases i with
   |zero=>exact Ztk I le hu h r h' r' e2 (hd rfl d rfl) X.prog X.w _ _ q
   |succ i=>
    have:(true&&(i+1==0))=false:=by simp
    rw[this]
    refine kat_one _ _ (Zie I le (n+1) A _ _ _ _ _ _ _ (by omega) h r h' r' e2 X.prog X.w _ _ ?_)
    exact q
inductive IsKey:Bool→D→Prop where
 |lst (xs:List D) (r:List D):IsKey true (.tup (.lst xs::r))
 |str (x:Str) (r:List D):IsKey false (.tup (.str x::r))
theorem IsKey.shape{b:Bool}{d:D}(h:IsKey b d):∃e r,d= .tup (e::r)∧∀xs,e≠.tup xs:=by
 cases h with
 |lst xs r=>exact⟨_,r,rfl,fun _ z=>by cases z⟩
 |str x r=>exact⟨_,r,rfl,fun _ z=>by cases z⟩
noncomputable abbrev kT(b:Bool):String:=if b=true then "list"else "str"
theorem Ztl(I:Inv X pins σ H s)(le:Same F H){n:Nat}{A:Around}(hu:A.units+(n+2)<cLine){d1 d2:D}{x y:V}{v u:Value}{b k:Bool}{E:Value→Shared→Prop}{Q:Bool→Shared→Prop}(k1:IsKey k d1)(k2:IsKey k d2)
  (r1:Rep X.K F d1 x) (v1:RelV x v) (r2:Rep X.K F d2 y) (v2:RelV y u) (e:ltD (n+2) d1 d2=some b) (q:Q b s):wpAny (model X.prog X.w) A (keyLt' (tuples' true) v u) Q E s:=by
 obtain⟨e1,rs1,rfl,hn1⟩:=k1.shape
 obtain⟨e2,rs2,rfl,_⟩:=k2.shape
 cases r1 with
 |tup h1 p1=>cases r2 with
  |tup h2 p2=>
   cases v1;cases v2
   obtain⟨its,rv,o,ho,hc,m,hd⟩:=Za7 I le h1
   obtain⟨jts,rw',o',ho',hc',m',hd'⟩:=Za7 I le h2
   have e:lexD (eqM (n+1)) (ltD (n+1)) (e1::rs1) (e2::rs2)=some b:=e
   refine kat_lt ho hd ho' hd' ?_
   refine Zoc I le (by omega) 0 p1 rv p2 rw' (fun _ d z xs=>?_) e (fun z=>?_) (fun z=>?_) (fun z=>?_) q
   ·obtain rfl:e1=d:=by simpa using z
    exact hn1 xs
   ·simp[z]
   ·simpa using z
   ·have z:jts.length<its.length:=by simpa using z
    simp;omega
theorem Zgd(I:Inv X pins σ H s)(le:Same F H){k:Bool}:∀{ds:List D} {vs:List V} {its:List Value},(∀d∈ds,IsKey k d)→Reps X.K F ds vs→Vals vs its→∃fs,KatTups s.heap its fs∧fs.length=its.length∧∀v∈fs,PySem.W.Looks (model X.prog X.w) s.heap (typeOf v) (.type (kT k))
 |_,_,_,_,.nil,.nil=>⟨[],trivial,rfl,fun _ z=>nomatch z⟩
 |d::ds,_,_,hk,.cons h t,.cons r rs=>by
  obtain⟨fs,a,b,c⟩:=Zgd I le (fun d z=>hk d (List.mem_cons_of_mem _ z)) t rs
  cases hk d List.mem_cons_self with
  |lst xs rr=>cases h with
   |tup h1 p1=>
    cases r
    obtain⟨its,rv,o,ho,hc,m,hd⟩:=Za7 I le h1
    cases p1 with
    |cons q1 q2=>cases rv with
     |cons w1 w2=>cases q1 with
      |lst g1 g2=>
       cases w1
       obtain⟨jts,_,o2,ho2,hc2,_⟩:=Zaq I le g1
       refine⟨_::fs,KatTups.cons ho hc hd rfl a,by simp[b],fun v z=>?_⟩
       rcases List.mem_cons.mp z with z|z
       ·subst z;exact fun A Q E s' k q=>wpAny_typeOf (T:="list") ⟨o2,k _ _ ho2,hc2⟩ q
       ·exact c v z
  |str x rr=>cases h with
   |tup h1 p1=>
    cases r
    obtain⟨its,rv,o,ho,hc,m,hd⟩:=Za7 I le h1
    cases p1 with
    |cons q1 q2=>cases rv with
     |cons w1 w2=>cases q1 with
      |str y=>
       obtain⟨tk,rfl⟩:=w1
       refine⟨_::fs,KatTups.cons ho hc hd rfl a,by simp[b],fun v z=>?_⟩
       rcases List.mem_cons.mp z with z|z
       ·subst z;exact fun A Q E s' k q=>wpAny_typeOf (T:="str") (typeIs_str s' x tk) q
       ·exact c v z
theorem Zne(I:Inv X pins σ H s)(le:Same F H){A:Around}{E:Value→Shared→Prop}{k:Bool}{ds:List D}{vs:List V}{its:List Value}(hk:∀d∈ds,IsKey k d)(r:Reps X.K F ds vs)(rv:Vals vs its)(h2:0<its.length){Q:SortKind→Shared→Prop}(q:Q (tuples' true) s):
  wpAny (model X.prog X.w) A (keyKind' (List.toArray its)) Q E s:=by
 obtain⟨fs,a,b,c⟩:=Zgd I le hk r rv
 refine kat_kind (T:=.type (kT k)) a (by omega) c (by cases k<;> decide) ?_
 cases k<;> exact q
end
end TX
namespace TX
open PySem PySem.Spec PySem.Calls PyProof.Rows L2 DL
structure KeysOk(ks:List D):Prop where
 key:∃k,∀d∈ks,IsKey k d
 ord:∃enc:D→List Nat,(∀a∈ks,∀b∈ks,ltD 16 a b=some (decide (enc a<enc b)))∧∀i j:Nat,i<ks.length→j<ks.length→enc (ks.getD i .non)=enc (ks.getD j .non)→i=j
noncomputable def Zge(ks:List D)(p:List Nat):Prop:=p.Perm (List.range ks.length)∧p.Pairwise fun i j=>ltD 16 (ks.getD j .non) (ks.getD i .non)=some false
theorem Zea{ks:List D}(h:KeysOk ks){p q:List Nat}(hp:Zge ks p)(hq:Zge ks q):p=q:=by
 obtain⟨enc,he,hd⟩:=h.ord
 have get:∀i,i<ks.length→ks.getD i .non∈ks:=fun i hi=>by
  rw[List.getD_eq_getElem?_getD,List.getElem?_eq_getElem hi];exact List.getElem_mem hi
 have mp:∀i∈p,i<ks.length:=fun i hi=>List.mem_range.mp (hp.1.mem_iff.mp hi)
 have mq:∀i∈q,i<ks.length:=fun i hi=>List.mem_range.mp (hq.1.mem_iff.mp hi)
 refine List.Perm.eq_of_pairwise (le:=fun i j=>ltD 16 (ks.getD j .non) (ks.getD i .non)=some false) (fun a b ha hb h1 h2=>?_) hp.2 hq.2 (hp.1.trans hq.1.symm)
 rw[he _ (get _ (mq b hb)) _ (get _ (mp a ha))]at h1
 rw[he _ (get _ (mp a ha)) _ (get _ (mq b hb))]at h2
 have h1:¬enc (ks.getD b .non)<enc (ks.getD a .non):=by simpa using h1
 have h2:¬enc (ks.getD a .non)<enc (ks.getD b .non):=by simpa using h2
 exact hd a b (mp a ha) (mq b hb) (List.le_antisymm (List.not_lt.mp h1) (List.not_lt.mp h2))
theorem Zco{ks:List D}(h:KeysOk ks):∃p,Zge ks p:=by
 obtain⟨enc,he,hd⟩:=h.ord
 have get:∀i,i<ks.length→ks.getD i .non∈ks:=fun i hi=>by
  rw[List.getD_eq_getElem?_getD,List.getElem?_eq_getElem hi];exact List.getElem_mem hi
 refine⟨(List.range ks.length).mergeSort fun i j=>decide (¬enc (ks.getD j .non)<enc (ks.getD i .non)),List.mergeSort_perm _ _,?_⟩
 have pw:=List.pairwise_mergeSort (le:=fun i j:Nat=>decide (¬enc (ks.getD j .non)<enc (ks.getD i .non)))
  (fun a b c h1 h2=>by
   simp only[decide_eq_true_eq]at*
   exact List.not_lt.mpr (List.le_trans (List.not_lt.mp h1) (List.not_lt.mp h2)))
  (fun a b=>by
   simp only[Bool.or_eq_true,decide_eq_true_eq]
   rcases List.le_total (enc (ks.getD a .non)) (enc (ks.getD b .non))with z|z
   ·exact .inl (List.not_lt.mpr z)
   ·exact .inr (List.not_lt.mpr z)) (List.range ks.length)
 refine(List.Pairwise.imp_of_mem ?_ pw)
 intro i j hi hj z
 have hi:i<ks.length:=List.mem_range.mp ((List.mergeSort_perm _ _).mem_iff.mp hi)
 have hj:j<ks.length:=List.mem_range.mp ((List.mergeSort_perm _ _).mem_iff.mp hj)
 rw[he _ (get j hj) _ (get i hi)]
 simpa using z
open Classical in
noncomputable def srtK(ks xs:List D):Option SV:=
 if h:ks.length=xs.length∧xs.length<64∧KeysOk ks then some (.ol ((Classical.choose (Zco h.2.2)).map fun i=>xs.getD i .non))else none
theorem Zle{ks xs:List D}{sv:SV}(e:srtK ks xs=some sv):ks.length=xs.length∧xs.length<64∧KeysOk ks∧∃p,Zge ks p∧sv= .ol (p.map fun i=>xs.getD i .non):=by
 unfold srtK at e
 split at e
 ·rename_i h
  cases e
  exact⟨h.1,h.2.1,h.2.2,_,Classical.choose_spec (Zco h.2.2),rfl⟩
 ·cases e
theorem srtK_of{ks xs:List D}(h1:ks.length=xs.length)(h2:xs.length<64)(h3:KeysOk ks):∃p,Zge ks p∧srtK ks xs=some (.ol (p.map fun i=>xs.getD i .non)):=by
 refine⟨_,Classical.choose_spec (Zco h3),?_⟩
 unfold srtK
 rw[dif_pos ⟨h1,h2,h3⟩]
@[simp] noncomputable def keyF(fb:FE)(cs:List D)(d:D):Option D:=(fb (some (.fz d)::cs.map fun c=>some (.fz c))).bind fun p=>(frz p.1 p.2).bind fun q=>some q.1
@[simp] noncomputable def keysF(fb:FE)(cs:List D):List D→Option (List D)
 | []=>some []
 |d::ds=>(keyF fb cs d).bind fun k=>(keysF fb cs ds).bind fun ks=>some (k::ks)
@[simp] noncomputable def Zw1(fb:FE)(js:List Nat)(d:D)(δ:DSt):Option (RV×DSt):=match d with
 | .lst xs=>(frzAll (js.map RV.bw) δ).bind fun r=>(keysF fb r.1 xs).bind fun ks=>(srtK ks xs).bind fun sv=>some (.tmp sv,r.2)
 |_=>none
@[simp] noncomputable def Zyy(fa:FE)(js:List Nat)(fb:FE):FE:=fun δ=>(fa δ).bind fun p=>(frz p.1 p.2).bind fun q=>Zw1 fb js q.1 q.2
theorem Zeu{fb:FE}{cs:List D}:∀{xs ks:List D},keysF fb cs xs=some ks→ks.length=xs.length∧∀(j:Nat) (d:D),xs[j]? =some d→∃k,ks[j]? =some k∧keyF fb cs d=some k
 | [],ks,e=>by
  obtain rfl:[]=ks:=by simpa using e
  exact⟨rfl,fun j d z=>by simp at z⟩
 |x::xs,ks,e=>by
  have e:(keyF fb cs x).bind (fun k=>(keysF fb cs xs).bind fun ks=>some (k::ks))=some ks:=e
  obtain⟨k,e1,e2⟩:=Option.bind_eq_some_iff.mp e
  obtain⟨ks',e3,e4⟩:=Option.bind_eq_some_iff.mp e2
  cases e4
  obtain⟨a,b⟩:=Zeu e3
  refine⟨by simp[a],fun j d z=>?_⟩
  cases j with
  |zero=>
   obtain rfl:x=d:=by simpa using z
   exact⟨k,rfl,e1⟩
  |succ j=>exact b j d (by simpa using z)
section
variable{K:PySem.W.Frag}{Z:Ent K}{H:Hp}{σ:L2.St}
theorem Zod:∀{js:List Nat} {F:Hp} {δ δ':DSt} {own:Nat→Zo} {ds:List D},SR Z F H σ δ own→frzAll (js.map RV.bw) δ=some (ds,δ')→
  ∃F1 own1 vs,Same F F1∧SR Z F1 H σ δ' own1∧Reps K F1 ds vs∧vs.length=js.length∧∀(i j:Nat) (v:V),js[i]? =some j→vs[i]? =some v→σ[j]? =some (some v)
 | [],F,δ,δ',own,ds,s,e=>by
  have e:some (([]:List D),δ)=some (ds,δ'):=e
  cases e
  exact⟨F,own,[],Same.refl F,s,.nil,rfl,fun i j v z=>by simp at z⟩
 |j::js,F,δ,δ',own,ds,s,e=>by
  have e:(frz (.bw j) δ).bind (fun p=>(frzAll (js.map RV.bw) p.2).bind fun q=>some (p.1::q.1,q.2))=some (ds,δ'):=e
  obtain⟨⟨d,δ1⟩,e1,e2⟩:=Option.bind_eq_some_iff.mp e
  obtain⟨⟨ds',δ2⟩,e3,e4⟩:=Option.bind_eq_some_iff.mp e2
  cases e4
  obtain⟨sv,e5,e6⟩:=Option.bind_eq_some_iff.mp e1
  cases e6
  obtain⟨F1,v,sm1,h1,h2,s1⟩:=s.freeze (Za5 e5)
  obtain⟨F2,own2,vs,sm2,s2,r2,l2,g2⟩:=Zod s1 e3
  refine⟨F2,own2,v::vs,sm1.trans sm2,s2,.cons (h2.mono sm2) r2,by simp[l2],fun i k w z1 z2=>?_⟩
  cases i with
  |zero=>
   obtain rfl:j=k:=by simpa using z1
   obtain rfl:v=w:=by simpa using z2
   exact h1
  |succ i=>exact g2 i k w (by simpa using z1) (by simpa using z2)
theorem Reps.getI{F:Hp}:∀{ds:List D} {vs:List V} {i:Nat} {d:D},Reps K F ds vs→ds[i]? =some d→∃v,vs[i]? =some v∧Rep K F d v:=fun r e=>DL.Reps.get r e
theorem Reps.len2{F:Hp}:∀{ds:List D} {vs:List V},Reps K F ds vs→ds.length=vs.length
 |_,_,.nil=>rfl
 |_,_,.cons _ t=>congrArg (· +1) (Reps.len2 t)
theorem Ztm{F:Hp}{H1:Hp}(le:Same F H1){d:D}{v:V}(r:Rep K F d v){cs:List D}{vs:List V}(rs:Reps K F cs vs):
  SR (ent H1 F:Ent K) F H1 (some v::vs.map some) (some (.fz d)::cs.map fun c=>some (.fz c)) (fun _=>[]):=by
 refine⟨le,fun b o e=>.inl e,Same.refl H1,by simp[Reps.len2 rs],fun i sv e=>?_,fun _=>List.nodup_nil,fun _ _ z=>(nomatch z),fun _ _ _ _ _ z=>(nomatch z)⟩
 cases i with
 |zero=>
  have e:sv=SV.fz d:=by simpa using e.symm
  subst e
  exact⟨v,rfl,.fz r⟩
 |succ i=>
  have e:(cs.map fun c=>some (SV.fz c))[i]? =some (some sv):=by simpa using e
  rw[List.getElem?_map]at e
  cases hc:cs[i]? with
  |none=>rw[hc]at e;cases e
  |some c=>
   rw[hc]at e
   have e:sv=SV.fz c:=by simpa using e.symm
   subst e
   obtain⟨w,h1,h2⟩:=Reps.getI rs hc
   exact⟨w,by simp[h1],.fz h2⟩
end
end TX
namespace TX
open PySem PySem.Spec PySem.Calls PyProof.Rows L2 DL
open PySem.W (CodeHd kla_fn kla_obj)
section
variable{X:Cx}{pins:List (Addr×Obj)}{σ:L2.St}{H:Hp}{s:Shared}
theorem Zlf{K:PySem.W.Frag}{F:Hp}:∀{ks:List D} {kvs:List V},kvs.length=ks.length→(∀(j:Nat) kv,kvs[j]? =some kv→Rep K F (ks.getD j .non) kv)→Reps K F ks kvs
 | [],[],_,_=>.nil
 |k::ks,v::kvs,hl,h=>.cons (h 0 v rfl) (Zlf (by simpa using hl) fun j kv e=>h (j+1) kv (by simpa using e))
theorem Zgf:∀{ws:List V} {its:List Value},Vals ws its→∀{p:List Nat},(∀i∈p,i<its.length)→Vals (p.map fun i=>ws.getD i .non) (p.map fun i=>its.getD i Value.none):=by
 intro ws its h p hp
 have at':∀{ws:List V} {its:List Value},Vals ws its→∀i,i<its.length→RelV (ws.getD i .non) (its.getD i Value.none):=by
  intro ws its h
  induction h with
  |nil=>intro i hi;simp at hi
  |cons r t ih=>intro i hi;cases i with
   |zero=>exact r
   |succ i=>exact ih i (by simpa using hi)
 induction p with
 |nil=>exact .nil
 |cons i r ih=>exact .cons (at' h i (hp i List.mem_cons_self)) (ih fun j hj=>hp j (List.mem_cons_of_mem _ hj))
theorem Zcp{K:PySem.W.Frag}{F:Hp}:∀{xs:List D} {ws:List V},Reps K F xs ws→∀(i:Nat),i<xs.length→Rep K F (xs.getD i .non) (ws.getD i .non)
 |_,_,.nil,i,hi=>absurd hi (Nat.not_lt_zero _)
 |_,_,.cons h t,0,_=>h
 |_,_,.cons h t,i+1,hi=>Zcp t i (Nat.lt_of_succ_lt_succ hi)
theorem Zdl{K:PySem.W.Frag}{F:Hp}{xs:List D}{ws:List V}(h:Reps K F xs ws):∀{p:List Nat},(∀i∈p,i<xs.length)→Reps K F (p.map fun i=>xs.getD i .non) (p.map fun i=>ws.getD i .non)
 | [],_=>.nil
 |i::r,hp=>.cons (Zcp h i (hp i List.mem_cons_self)) (Zdl h fun j hj=>hp j (List.mem_cons_of_mem _ hj))
noncomputable abbrev Znf(enc:D→List Nat)(ks:List D)(i:Nat):strKind.toKeyOrd.α:=enc (ks.getD i .non)
theorem Zoe{ks:List D}{enc:D→List Nat}{A:Around}{kb:Bool}(hu:A.units+16<cLine)(hk:∀d∈ks,IsKey kb d)(he:∀a∈ks,∀b∈ks,ltD 16 a b=some (decide (enc a<enc b))){n:Nat}(hn:ks.length=n):
  Cmp X pins σ H A (fun j kv H=>Rep X.K H (ks.getD j .non) kv) strKind.toKeyOrd (Znf enc ks) n:=by
 intro H2 s2 ksV kvs sm I2 rv hl hkv h2
 have hlk:kvs.length=ks.length:=by have:=rv.length;omega
 have rr:=Zlf hlk hkv
 have get:∀i,i<ks.length→ks.getD i .non∈ks:=fun i hi=>by
  rw[List.getD_eq_getElem?_getD,List.getElem?_eq_getElem hi];exact List.getElem_mem hi
 refine⟨tuples' true,fun Q q=>Zne I2 (Same.refl H2) hk rr rv (by omega) q,fun i j Q hi hj q=>?_⟩
 obtain⟨v,a1,a2,a3⟩:=Reps.getD rr rv i (by omega)
 obtain⟨w,b1,b2,b3⟩:=Reps.getD rr rv j (by omega)
 have e1:ksV.getD i Value.none=ksV[i]:=by simp[List.getD_eq_getElem?_getD,List.getElem?_eq_getElem (show i<ksV.length by omega)]
 have e2:ksV.getD j Value.none=ksV[j]:=by simp[List.getD_eq_getElem?_getD,List.getElem?_eq_getElem (show j<ksV.length by omega)]
 rw[e1,e2]
 exact Ztl I2 (Same.refl H2) (n:=14) hu (hk _ (get i a3)) (hk _ (get j b3)) a1 a2 b1 b2 (he _ (get i a3) _ (get j b3)) q
theorem Zof{ks:List D}{enc:D→List Nat}(he:∀a∈ks,∀b∈ks,ltD 16 a b=some (decide (enc a<enc b))){p:Array Nat}{n:Nat}(hn:ks.length=n)(hp:Pm n p)(hs:Srt (O:=strKind.toKeyOrd) (Znf enc ks) p n):Zge ks p.toList:=by
 subst hn
 have pt:p.toList.Perm (List.range ks.length):=Array.perm_iff_toList_perm.mp hp
 have get:∀i,i<ks.length→ks.getD i .non∈ks:=fun i hi=>by
  rw[List.getD_eq_getElem?_getD,List.getElem?_eq_getElem hi];exact List.getElem_mem hi
 refine⟨pt,List.pairwise_iff_getElem.mpr fun i j hi hj hij=>?_⟩
 have hj':j<ks.length:=by have:=pt.length_eq;rw[List.length_range]at this;omega
 have mi:p.toList[i]<ks.length:=List.mem_range.mp (pt.mem_iff.mp (List.getElem_mem hi))
 have mj:p.toList[j]<ks.length:=List.mem_range.mp (pt.mem_iff.mp (List.getElem_mem hj))
 rw[he _ (get _ mj) _ (get _ mi)]
 have z:=hs i j (Nat.le_of_lt hij) hj'
 unfold Kp at z
 have ei:p.getD i 0=p.toList[i]:=by rw[Array.getD_eq_getD_getElem?];simp at hi⊢;simp[hi]
 have ej:p.getD j 0=p.toList[j]:=by rw[Array.getD_eq_getD_getElem?];simp at hj⊢;simp[hj]
 rw[ei,ej]at z
 have z:decide (enc (ks.getD p.toList[j] .non)<enc (ks.getD p.toList[i] .non))=false:=z
 rw[z]
end
end TX
namespace TX
open PySem PySem.Spec PySem.Calls PyProof.Rows L2 DL
open PySem.W (CodeHd tabObj)
noncomputable abbrev spT(P:Addr)(q:Str)(sp:Sp):Sp:=fun vs H Q E=>H P=some (.tab q)∧sp vs H Q E
section
variable{K:PySem.W.Frag}{Z:Ent K}{H:Hp}{σ:L2.St}{Q:VK}
theorem Zp6{n:Nat}{g:List D→Option SV}{fa:FA}{E:XK}{P:Addr}{q:Str}(hT:Z.h P=some (.tab q))(h:Zb Z (Zao n g fa) σ H Q):Zov (spT P q (spOf K n g)) [] E (Zby Z fa) σ H Q:=by
 obtain⟨F,δ,own,rvs,δ',s,e,k⟩:=Znx (E:=E) h
 exact⟨F,δ,own,rvs,δ',s,e,fun vs H' F' own' a b c d=>⟨c.old _ _ hT,k vs H' F' own' a b c d⟩⟩
end
section
variable{X:Cx}{Z:Ent X.K}{a:Expr}{pos:Pos}
theorem e_callH{k n:Nat}{f:Addr}{fd:FuncData}{ps:List Str}{g:List D→Option SV}{x:Str}{p:Pos}{es:List Expr}{fr:FA}{P:Addr}{q:Str}(hT:Z.h P=some (.tab q))(F:FnOk X.prog X.w X.K X.mg X.base CX0 k f fd ps (spT P q (spOf X.K n g)))(hr:Room k X.A)(hm:X.mg x=some (.ref f))(hk:PySem.W.keepIn X.K (.ref f)=true)(hb:Zbe X.K fd ps [])
  (ha:PA X (a::es) (Zby Z fr)) (hg:Gl X x:=by rfl) (hdb:(x==("__debug__":Str))=false:=by decide) (he:starEach (a::es) X.env=(false,eval a X.env)::starEach es X.env:=by rfl) (hpl:(backTo pos (starEach es X.env)).any (·.1)=false:=by rfl):
  PE X (.Call (.Name x p) (a::es) [] pos) (Zb Z (Zao n g fr)):=(Zjt F hr hg hm hk hb .nil Zrz ha hdb he hpl).imp fun _ _ _ h=>Zp6 hT h
end
structure FunC(K:PySem.W.Frag)(x qual:Str)(st:Stmt)(f:Addr)(fd:FuncData)(c:Addr):Prop where
 ex:∃(oc:Value) (od:Option Addr) (kV doc pm:Value) (an:Option Addr) (ct:Value) (osl:Array (Option Value)),
  fd=PySem.W.fnOf x qual (Za9 st) (Zae st) (Zh st) .none kV doc pm an (.ref c) ct∧K.lookup f=some ⟨oc,od,.func fd,osl⟩∧PySem.W.codeIn K (.ref c) qual=true
 kp:PySem.W.keepIn K (.ref f)=true
theorem FunC.fn{K:PySem.W.Frag}{x qual:Str}{st:Stmt}{f:Addr}{fd:FuncData}{c:Addr}(F:FunC K x qual st f fd c):Fun K x qual st f fd:=by
 obtain⟨oc,od,kV,doc,pm,an,ct,osl,a,b,d⟩:=F.ex
 exact⟨⟨oc,od,kV,doc,pm,an,.ref c,ct,osl,a,b,d⟩,F.kp⟩
theorem funC_mk{K:PySem.W.Frag}{x qual:Str}{st:Stmt}{f c:Addr}{oc:Value}{od an:Option Addr}{osl:Array (Option Value)}{kV doc pm ct:Value}(l:K.lookup f=some ⟨oc,od,.func (PySem.W.fnOf x qual (Za9 st) (Zae st) (Zh st) .none kV doc pm an (.ref c) ct),osl⟩)
  (h:PySem.W.codeIn K (.ref c) qual=true) (k:PySem.W.keepIn K (.ref f)=true):FunC K x qual st f (PySem.W.fnOf x qual (Za9 st) (Zae st) (Zh st) .none kV doc pm an (.ref c) ct) c:=⟨⟨oc,od,kV,doc,pm,an,ct,osl,rfl,l,h⟩,k⟩
section
variable{P:Program}{w:World}{K:PySem.W.Frag}{mg:Str→Option Value}{base:Heap}
theorem FunC.ok{x qual:Str}{st:Stmt}{f:Addr}{fd:FuncData}{c:Addr}{N ps:List Str}{k:Nat}{sp:Sp}(F:FunC K x qual st f fd c)(S:FnScope N ps (Zh st))(len:∀vs H Q E,sp vs H Q E→vs.length=ps.length)
  (hbody:∀(A:Around) (outer:List Env) (s:Shared) (H:Hp) (vs:List V) (Q:VK) (E:XK),Room k (A.deeper (envOfC qual (Zh st) s.heap.objs.size f (.ref c)))→sp vs H Q E→
   ∃t,PSs (cxOf CX0 P w K mg base N qual (Zh st) f (.ref c) A outer s H E).nox (Zae st) t∧t {nx:=fun _ H'=>Q .non H',rt:=Q} (Zcj N vs) H):FnOk P w K mg base CX0 (k+1) f fd ps sp:=by
 obtain⟨oc,od,kV,doc,pm,an,ct,osl,rfl,lk,hcd⟩:=F.ex
 refine Zrl lk hcd S len fun A outer s H vs Q E hr hsp=>?_
 obtain⟨t,h,q⟩:=hbody A outer s H vs Q E hr hsp
 exact⟨t,h.nox,q⟩
end
theorem Zlg{P:Program}{w:World}{K:PySem.W.Frag}{mg mb:Str→Option Value}{CX:CXT}{k:Nat}{fa a:Addr}{fd:FuncData}{x:Str}{sp:Sp}{s₁:Shared}{vs:List Value}{ns:List Int}{c T:Addr}{q:Str}
  (KX:K.In s₁.heap) (hns:s₁.heap.Ns mainGlobals mg) (hb:s₁.heap.Ns builtinsNs mb) (hbb:∀x:Str,x≠"__name__"→mb x=bootBuiltins x) (hlim:s₁.heap.NoLimit) (hbm:BMain mg s₁.heap) (hg:s₁.gens= #[])
  (hcd:CodeHd s₁.heap c T) (hT:s₁.heap.get? T=some (tabObj #[])) (hKT:K.lookup T=none)
  (ha:s₁.heap.get? a=some {cls:=.type "list",data:=.seq vs.toArray}) (hi:IntsAre vs ns) (hl:ns.length≤sizeLine) (hr:Room k callerA)
  (F:∀base:Heap,K.In base→base.Ns mainGlobals mg→BMain mg base→FnOk P w K mg base CX k fa fd [x] (spT T q sp)) (hbind:∀(s:Shared) (u:Value),BindsTo s fd ⟨[u],[]⟩ [(x,u)])
  (hsp:∀H:Hp,SqL K H a (ns.map V.int)→sp [.ref a] H (fun v H'=>v= .bl true∧Same H H') fun _ _ _=>False)
  (hCX:∀H e s',CX [] H s₁ (fun _ _ _=>False) e s'→False):
  codeAny (model P w) callerA (.call (.ref fa) ⟨[.ref a],[]⟩) (fun r s'=>r= .ok (.ret (.bool true))∧OldK s₁.heap s'.heap∧s'.os=s₁.os∧AllBare s'.gens) s₁:=by
 have rv:=Zfk hi
 have lenV:=hi.length
 have aT:a≠T:=fun z=>by rw[z,hT]at ha;cases ha
 have core:∀H:Hp,(∀b,b≠T→H b=none∨∃o xs,H b=some (.frz o (.lst xs)))→H T=some (.tab q)→SqL K H a (ns.map V.int)→HOk P w H s₁.heap→(∀b,H b≠none→b=a∨b=T)→(H a≠none→K.lookup a=none)→
   codeAny (model P w) callerA (.call (.ref fa) ⟨[.ref a],[]⟩) (fun r s'=>r= .ok (.ret (.bool true))∧OldK s₁.heap s'.heap∧s'.os=s₁.os∧AllBare s'.gens) s₁:=by
  intro H hO hHT hS hok hA hK
  have base_of:∀{b:Addr} {o:Obj},s₁.heap.get? b=some o→H b=none→(hidT s₁.heap H).get? b=some o:=fun e n=>Zl7 e n
  have noA:∀{b:Addr} {o:Obj},s₁.heap.get? b=some o→o.cls≠.none→o.cls≠.type "list"→H b=none:=fun{b o} e d1 d2=>by
   cases q:H b with
   |none=>rfl
   |some u=>
    rcases hA b (by rw[q];simp)with e'|e'
    ·subst e';rw[ha]at e;cases e;exact absurd rfl d2
    ·subst e';rw[hT]at e;cases e;exact absurd rfl d1
  have noD:∀{b:Addr} {o:Obj} {es:Array DictEntry} {ep:Nat},s₁.heap.get? b=some o→o.data= .dict es ep→H b=none:=fun{b o es ep} e d=>by
   cases q:H b with
   |none=>rfl
   |some u=>
    rcases hA b (by rw[q];simp)with e'|e'
    ·subst e';rw[ha]at e;cases e;cases d
    ·subst e';rw[hT]at e;cases e;cases d
  have nsK:∀{b:Addr} {m:Str→Option Value},s₁.heap.Ns b m→(hidT s₁.heap H).Ns b m:=fun{b m} ⟨o,es,ep,e,d,r⟩=>⟨o,es,ep,base_of e (noD e d),d,r⟩
  have hKb:K.In (hidT s₁.heap H):=fun b o e=>base_of (KX b o e) (by
   cases q:H b with
   |none=>rfl
   |some u=>
    rcases hA b (by rw[q];simp)with e'|e'
    ·subst e'
     rw[hK (by rw[q];simp)]at e;cases e
    ·subst e'
     rw[hKT]at e;cases e)
  have hBb:BMain mg (hidT s₁.heap H):=by
   obtain⟨bm,ob,b1,b2,b3,b4,b5,b6⟩:=hbm
   exact⟨bm,ob,b1,b2,base_of b3 (noA b3 (by rw[b4];intro z;cases z) (by rw[b4];decide)),b4,b5,b6⟩
  have hM:Mod K mg (hidT s₁.heap H):=⟨hKb,nsK hns,⟨mb,nsK hb,hbb⟩,let⟨mc,h1,h2⟩:=hlim;⟨mc,nsK h1,h2⟩⟩
  have e0:Env0 P w K mg (hidT s₁.heap H) callerA [] s₁ H:=⟨rfl,hM,fun b o e=>Zoh e,Nat.le_of_eq (Zjh _ _),trivial,fun b hb=>absurd (show b∈([]:List Addr)from hb) (by simp),hok,.of_eq hg⟩
  refine codeAny_mono ((F _ hKb (nsK hns) hBb).run callerA [] s₁ H ⟨[.ref a],[]⟩ [.ref a] [.ref a] _ _ hr e0 (hbind s₁ (.ref a)) (.cons rfl .nil) ⟨hHT,hsp H hS⟩) fun r s' h=>?_
  cases r with
  |error e=>exact(hCX H e s' h).elim
  |ok fl=>
   cases fl with
   |next=>exact False.elim h
   |brk=>exact False.elim h
   |cont=>exact False.elim h
   |ret u=>
    obtain⟨v,H',os,bare,un,hok',r',rfl,sm⟩:=h
    obtain rfl:u=Value.bool true:=r'
    have kept:∀b o,b≠T→s₁.heap.get? b=some o→s'.heap.get? b=some o:=fun b o hb e=>by
     cases q:H b with
     |none=>exact un.keep b o e q (by intro z;exact absurd (show b∈([]:List Addr)from z) (by simp)) (by simp)
     |some u=>
      rcases hO b hb with z|⟨ob,xs,z⟩
      ·rw[q]at z;cases z
      ·obtain⟨e1,_⟩:=hok b _ z
       obtain⟨e2,_⟩:=hok' b _ (sm _ _ z)
       rw[e]at e1;cases e1
       exact e2
    obtain⟨ps,hps,_⟩:=hok' T _ (sm _ _ hHT)
    refine⟨rfl,⟨fun b o e=>?_,fun b o e=>?_⟩,os,bare⟩
    ·by_cases hbT:b=T
     ·subst hbT
      rw[hT]at e
      cases e
      exact .inr (.inl ⟨(hcd.tab hT).isCodeTable,rfl, #[],ps,rfl,by rw[hps];simp⟩)
     ·exact .inl (kept b o hbT e)
    ·by_cases hbT:b=T
     ·subst hbT;exact⟨_,hps⟩
     ·exact⟨o,kept b o hbT e⟩
 have tabOk:∀H:Hp,Zan P w H s₁.heap T (.tab q):=fun H=>⟨#[],hT,trivial,fun pos cv z=>by cases z⟩
 cases hk:K.lookup a with
 |some o=>
  have e:=KX a o hk
  rw[ha]at e
  cases e
  refine core (fun b=>if b=T then some (.tab q)else none) (fun b hb=>.inl (if_neg hb)) (if_pos rfl) (.inr ⟨_,vs.toArray,_,hk,rfl,rfl,rfl,by rw[List.size_toArray,lenV];exact hl,by simpa using rv⟩) (fun b u z=>?_) (fun b z=>?_) fun z=>absurd (if_neg aT) z
  ·by_cases hb:b=T
   ·have z':=(if_pos hb).symm.trans z
    cases z'
    subst hb
    exact tabOk _
   ·have z':=(if_neg hb).symm.trans z
    cases z'
  ·by_cases hb:b=T
   ·exact .inr hb
   ·exact absurd (if_neg hb) z
 |none=>
  refine core (fun b=>if b=T then some (.tab q)else if b=a then some (.frz {cls:=.type "list",data:=.seq vs.toArray} (.lst (ns.map V.int)))else none) (fun b hb=>?_) (if_pos rfl) (.inl (.inr ⟨{cls:=.type "list",data:=.seq vs.toArray},by simp[aT]⟩)) (fun b u z=>?_) (fun b z=>?_) fun _=>hk
  ·by_cases hb2:b=a
   ·exact .inr ⟨_,_,by simp only[if_neg hb];exact if_pos hb2⟩
   ·exact .inl (by simp only[if_neg hb];exact if_neg hb2)
  ·by_cases hb:b=T
   ·have z':=(if_pos hb).symm.trans z
    cases z'
    subst hb
    exact tabOk _
   ·have z:=(if_neg hb).symm.trans z
    by_cases hb2:b=a
    ·have z':=(if_pos hb2).symm.trans z
     cases z'
     subst hb2
     exact⟨ha,by rw[List.length_map];exact hl,vs,_,rv,ha⟩
    ·have z':=(if_neg hb2).symm.trans z
     cases z'
  ·by_cases hb:b=T
   ·exact .inr hb
   ·by_cases hb2:b=a
    ·exact .inl hb2
    ·exact absurd (by simp[hb,hb2]) z
end TX
namespace TX
open PySem PySem.Spec PySem.Calls PyProof.Rows L2 DL
noncomputable def leS(a b:Str):Bool:=decide (¬b.cps.toList<a.cps.toList)
noncomputable def srtS(ss:List Str):List Str:=ss.mergeSort leS
end TX
namespace L2
open PySem PySem.Spec PySem.Calls PyProof.Rows TX
section
variable{X:Cx}
noncomputable def Z0l(K:PySem.W.Frag):List V→Hp→VK→Prop:=fun xs H Q=>∃l ss,xs=[.ref l]∧SqL K H l (ss.map V.str)∧ss.length<64∧∀q,H q=none→Q (.ref q) (upd H q (.lst ((srtS ss).map V.str)))
end
end L2
namespace DL
open PySem PySem.Spec PySem.Calls PyProof.Rows L2 TX
variable{K:PySem.W.Frag}
@[simp] noncomputable def txs?:List D→Option (List Str)
 | []=>some []
 | .str i::r=>(txs? r).bind fun l=>some (i::l)
 |_=>none
noncomputable def Z0m:List D→Option SV
 | [.lst xs]=>(txs? xs).bind fun ns=>if ns.length<64 then some (.ol ((srtS ns).map D.str))else none
 |_=>none
@[simp] noncomputable def ltS:D→D→Option SV
 | .str a,.str b=>some (.fz (.bl (decide (a.cps.toList<b.cps.toList))))
 |_,_=>none
section
variable{Z:Ent K}{H:Hp}{σ:L2.St}{Q:VK}{E:Ends}
theorem Zw2:Za0 Z (fun x y H Q=>∃i j,x= .str i∧y= .str j∧Q (.bl (decide (i.cps.toList<j.cps.toList))) H) ltS:=by
 intro F H σ δ own x y d1 d2 sv Q s r1 r2 e k
 unfold ltS at e
 split at e
 ·cases e
  exact⟨_,_,r1.str,r2.str,k.fz s (.bl _)⟩
 ·cases e
end
section
variable{X:Cx}{Z:Ent X.K}{a b c:Expr}{fa fb fc:FE}{pos:Pos}
theorem Zw3(ha:PE X a (Zb Z fa))(hb:PE X b (Zb Z fb)):PT X (.Compare a [.Lt] [b] pos) (Z1 Z (Z9 (binF ltS fa fb))):=Zft Zjp Zw2 ha hb (Zb4 _)
end
end DL
namespace TX
open PySem PySem.Spec PySem.Calls PyProof.Rows L2 DL
open PySem.W (CodeHd tabObj)
noncomputable def hasB(names:List (Str×NameKind))(cl:List (Str×Addr)):Bool:=names.all fun p=>p.2 != .free|| (cl.lookup p.1).isSome
theorem Ztn{names:List (Str×NameKind)}{cl:List (Str×Addr)}(h:hasB names cl=true)(y:Str)(e:names.lookup y=some .free):∃c,cl.lookup y=some c:=by
 have:=List.all_eq_true.mp h (y,.free) (PySem.mem_of_lookup e)
 have z:((NameKind.free !=NameKind.free)|| (cl.lookup y).isSome)=true:=this
 rw[show(NameKind.free !=NameKind.free)=false by decide,Bool.false_or]at z
 exact Option.isSome_iff_exists.mp z
noncomputable def jsB(N:List Str)(sc lc:List (Str×NameKind)):List Nat→List Str→Bool
 |j::js,y::fs=>N[j]? ==some y&&sc.lookup y==some .cell&&lc.lookup y==some .free&&jsB N sc lc js fs
 | [],[]=>true
 |_,_=>false
section
variable{P:Program}{w:World}{K:PySem.W.Frag}{mg:Str→Option Value}{base:Heap}{tq:Addr}{q:Str}
theorem okT{x qual:Str}{st:Stmt}{f:Addr}{fd:FuncData}{N ps:List Str}{k n:Nat}(F:Fun K x qual st f fd)(S:FnScope N ps (Zh st))(hn:n=ps.length)(f0:FS)
  (hb:∀(cdv:Value) (A:Around) (outer:List Env) (s:Shared) (H F0:Hp) (E:XK),H tq=some (.tab q)→Room k (A.deeper (envOfC qual (Zh st) s.heap.objs.size f cdv))→(A.deeper (envOfC qual (Zh st) s.heap.objs.size f cdv)).units+1<cLine→(A.deeper (envOfC qual (Zh st) s.heap.objs.size f cdv)).units+64<cLine→
   PSs (cxOf CX0 P w K mg base N qual (Zh st) f cdv A outer s H E).nox (Zae st) (Z0 (ent H F0:Ent K) f0)):FnOk P w K mg base CX0 (k+1) f fd ps (spT tq q (spOf K n (Zcc f0 N.length))):=
 F.ok S (fun _ _ _ _ h=>(Zej h.2).trans hn) fun cdv A outer s H vs Q E hr h=>by
  obtain⟨F0,h'⟩:=Zel (N:=N) (f:=f0) h.2
  exact⟨_,hb cdv A outer s H F0 E h.1 hr (Zo5 hr) hr.units,h'⟩
theorem okC{x qual:Str}{st:Stmt}{f c:Addr}{fd:FuncData}{N ps:List Str}{k n:Nat}(F:FunC K x qual st f fd c)(S:FnScope N ps (Zh st))(hn:n=ps.length)(f0:FS)
  (hb:∀(A:Around) (outer:List Env) (s:Shared) (H F0:Hp) (E:XK),H tq=some (.tab q)→Room k (A.deeper (envOfC qual (Zh st) s.heap.objs.size f (.ref c)))→(A.deeper (envOfC qual (Zh st) s.heap.objs.size f (.ref c))).units+1<cLine→(A.deeper (envOfC qual (Zh st) s.heap.objs.size f (.ref c))).units+64<cLine→
   PSs (cxOf CX0 P w K mg base N qual (Zh st) f (.ref c) A outer s H E).nox (Zae st) (Z0 (ent H F0:Ent K) f0)):FnOk P w K mg base CX0 (k+1) f fd ps (spT tq q (spOf K n (Zcc f0 N.length))):=
 F.ok S (fun _ _ _ _ h=>(Zej h.2).trans hn) fun A outer s H vs Q E hr h=>by
  obtain⟨F0,h'⟩:=Zel (N:=N) (f:=f0) h.2
  exact⟨_,hb A outer s H F0 E h.1 hr (Zo5 hr) hr.units,h'⟩
end
theorem walk_ofT{l:PySem.W.OpenLaw}{n k:Nat}{qp:Program}{loose:List Str}{XP:(Str→Option Value)→Heap→Prop}{YP:World→Heap→Prop}{d:DefRec}{K:Params→PySem.W.Frag}{CX:CXT}{sp:PySem.W.Frag→Sp}{x:Str}{c T:Addr}{q:Str}
  (hn:l.most=some n) (hn2:n≤sizeLine) (hdf:d.params.defaults=[]) (hr:Room k callerA)
  (hY:∀(w:World) (h:Heap),YP w h→(K w.params).In h∧h.get? T=some (tabObj #[])) (hcT:∀p:Params,PySem.W.codeHdIn (K p) c T=true) (hKT:∀p:Params,(K p).lookup T=none)
  (F:∀(w:World) (mg:Str→Option Value) (fa:Addr) (h:Heap),(K w.params).In h→h.Ns mainGlobals mg→mg d.name=some (.ref fa)→
   ∃fd:FuncData,(∀(s:Shared) (u:Value),BindsTo s fd ⟨[u],[]⟩ [(x,u)])∧
    ∀base:Heap,(K w.params).In base→base.Ns mainGlobals mg→BMain mg base→FnOk l.prog w (K w.params) mg base CX k fa fd [x] (spT T q (sp (K w.params))))
  (hsp:∀(K:PySem.W.Frag) (H:Hp) (a:Addr) (ns:List Int),ns.length≤n→SqL K H a (ns.map V.int)→sp K [.ref a] H (fun v H'=>v= .bl true∧Same H H') fun _ _ _=>False)
  (hCX:∀(H:Hp) (s:Shared) (e:Value) (s':Shared),CX [] H s (fun _ _ _=>False) e s'→False):
  PySem.W.WalkO qp loose XP YP l.row.toRowW d [] (fun f vs=>PySem.call f vs):=by
 refine Att.attach_call hn hdf fun w s₀ s₁ mg mb fa o pm cd doc a vs ns G Y ho hd hcd hmg hobj hints hlen hg=>?_
 obtain⟨KX,hT⟩:=hY w _ Y
 obtain⟨fd,hb,hF⟩:=F w mg fa _ KX G.T.g hmg
 exact Zlg KX G.T.g G.T.b G.T.builtins G.T.nolimit G.T.bmain hg (PySem.W.codeHd_of_K KX (hcT w.params)) hT (hKT w.params) hobj hints (Nat.le_trans hlen hn2) hr hF hb (fun H hS=>hsp _ H a ns hlen hS) fun H e s'=>hCX H s₁ e s'
end TX
namespace DL
open PySem PySem.Spec PySem.Calls PyProof.Rows L2 TX
section
variable{X:Cx}{Z:Ent X.K}{a b:Expr}{fa fb:FE}{pos:Pos}
theorem e_callH{k n:Nat}{f:Addr}{fd:FuncData}{ps:List Str}{g:List D→Option SV}{x:Str}{p:Pos}{es:List Expr}{fr:FA}{P:Addr}{q:Str}(hT:Z.h P=some (.tab q))(F:FnOk X.prog X.w X.K X.mg X.base CX0 k f fd ps (spT P q (spOf X.K n g)))(hr:Room k X.A)(hm:X.mg x=some (.ref f))(hk:PySem.W.keepIn X.K (.ref f)=true)(hb:Zbe X.K fd ps [])
  (ha:PA X (a::es) (Zby Z fr)) (hg:Gl X x:=by rfl) (hdb:(x==("__debug__":Str))=false:=by decide) (he:starEach (a::es) X.env=(false,eval a X.env)::starEach es X.env:=by rfl) (hpl:(backTo pos (starEach es X.env)).any (·.1)=false:=by rfl):
  PE X (.Call (.Name x p) (a::es) [] pos) (Zb Z (Zao n g fr)):=TX.e_callH hT F hr hm hk hb ha hg hdb he hpl
end
end DL
namespace DL
open PySem PySem.Spec PySem.Calls PyProof.Rows L2
section
variable{K:PySem.W.Frag}{Z:Ent K}{H:Hp}{σ:L2.St}
open Classical in
@[simp] noncomputable def Z0n(fa:FA):FD:=fun δ=>(fa δ).bind fun p=>match Zbg p.1 p.2 with
 |some [.int i,.int j]=>if rngP i∧rngP j then some (Zfm i (j- i).toNat,p.2)else none
 |_=>none
end
section
variable{X:Cx}{Z:Ent X.K}{a b:Expr}{fa fb:FE}{pos:Pos}
end
end DL
namespace TX
open PySem PySem.Spec PySem.Calls PyProof.Rows L2 DL
open PySem.W (kas_sort kas_ask kas_item kat_run kat_snds)
section
variable{X:Cx}{pins:List (Addr×Obj)}{σ:L2.St}{H:Hp}{s:Shared}{E:Value→Shared→Prop}{its:List Value}{l:Addr}{KeyOk:Nat→V→Hp→Prop}{Q:Value→Shared→Prop}{O:KeyOrd}{key:Nat→O.α}{kvs:List V}
theorem Zi8(I:Inv X pins σ H s)(hl:s.heap.IsList l its.toArray)(h64:its.length<64)(rv:Vals kvs its)(hk:∀j kv,kvs[j]? =some kv→KeyOk j kv H)(hc:Cmp X pins σ H X.A.in1.in1 KeyOk O key its.length)
  (hQ:∀p D s' c,Pm its.length p→Srt key p its.length→X.s₀.heap.get? D=none→Inv X pins σ H s'→FpOk X pins H D→s'.heap.get? D=some (seqObj "list" (List.toArray (p.toList.map fun i=>its.getD i Value.none)) c)→Q (.ref D) s'):
  wpAny (model X.prog X.w) X.A (call (.builtin "sorted") [.ref l]) Q E s:=by
 refine Calls.call_function_entry kind_sorted plain_sorted entry_sorted (args_sorted1 _) ?_
 unfold Builtin.«sorted»
 refine wpAny_bind (m:=checkCount "sorted" 1 1 _) (wpAny_pure ?_)
 refine wpAny_bind (collect_list hl ?_ (by rw[sizeLine_eq];omega))
 refine wpAny_bind (wpAny_newList ?_ (by rw[sizeLine_eq];omega))
 have hsz:((s.heap.push (seqObj "list" #[] 0)).update s.heap.objs.size (Obj.mapSeq (· ++its.toArray))).objs.size=s.heap.objs.size+1:=by
  rw[Heap.size_update,size_push']
 have hoL:(((s.heap.push (seqObj "list" #[] 0)).update s.heap.objs.size (Obj.mapSeq (· ++its.toArray))).push (seqObj "list" its.toArray 0)).get? (s.heap.objs.size+1)=some (seqObj "list" its.toArray 0):=by
  rw[←hsz];exact Heap.get?_push_size _ rfl
 have keep:∀b o,s.heap.get? b=some o→(((s.heap.push (seqObj "list" #[] 0)).update s.heap.objs.size (Obj.mapSeq (· ++its.toArray))).push (seqObj "list" its.toArray 0)).get? b=some o:=fun b o q=>by
  have hlt:b<s.heap.objs.size:=Heap.lt_size q
  rw[Heap.get?_push_ne _ _ _ (by rw[hsz];exact Nat.ne_of_lt (Nat.lt_succ_of_lt hlt)),Heap.get?_update_ne _ _ _ _ (Nat.ne_of_lt hlt),Heap.get?_push_ne _ _ _ (Nat.ne_of_lt hlt)]
  exact q
 show wpAny _ _ _ _ _ {s with heap:=((s.heap.push (seqObj "list" #[] 0)).update s.heap.objs.size (Obj.mapSeq (· ++its.toArray))).push (seqObj "list" its.toArray 0)}
 rw[hsz]
 refine wpAny_bind (wpAny_holding (wpAny_call_entry slot_list_sort ⟨_,hoL,rfl⟩ entry_list_sort ?body (args_list_sort _)))
 case body=>
  rw[list_sort_plain]
  have hs2:(((s.heap.push (seqObj "list" #[] 0)).update s.heap.objs.size (Obj.mapSeq (· ++its.toArray))).push (seqObj "list" its.toArray 0)).objs.size=s.heap.objs.size+2:=by rw[size_push',hsz]
  generalize hh:(((s.heap.push (seqObj "list" #[] 0)).update s.heap.objs.size (Obj.mapSeq (· ++its.toArray))).push (seqObj "list" its.toArray 0))=h1 at hoL keep hs2⊢
  generalize hD:s.heap.objs.size+1=D at hoL⊢
  have hDn: @Eq Nat D (s.heap.objs.size+1):=hD.symm
  obtain⟨e1,ho1⟩:∃e1,(h1.update D (Obj.mapSeq fun _=>(#[]:Array Value))).get? D=some (seqObj "list" #[] e1):=⟨_,get?_update_seq hoL fun _=> #[]⟩
  refine wpAny_bind (listItems_at hoL rfl ?_)
  refine wpAny_bind (listUpdate_at hoL rfl ?_ (by rw[List.size_toArray,sizeLine_eq];omega) (Nat.zero_le _))
  refine wpAny_bind (seqEpoch_at ho1 rfl ?_)
  refine wpAny_bind (wpAny_newTuple ?_ (by show its.length≤_;rw[sizeLine_eq];omega))
  refine wpAny_bind (wpAny_newList ?_ (Nat.zero_le _))
  refine wpAny_holding ?_
  have kp:∀b o,s.heap.get? b=some o→(((h1.update D (Obj.mapSeq fun _=>(#[]:Array Value))).push (seqObj "tuple" its.toArray 0)).push (seqObj "list" #[] 0)).get? b=some o:=fun b o q=>by
   have hlt: @LT.lt Nat _ b s.heap.objs.size:=Heap.lt_size q
   have:=keep b o q
   refine Heap.get?_push_of_some _ (Heap.get?_push_of_some _ ?_)
   rw[Heap.get?_update_ne _ _ _ _ (Nat.ne_of_lt (show @LT.lt Nat _ b D by omega))]
   exact this
  have nD:H D=none:=I.hok.fresh (by omega)
  have fD:FpOk X pins H D:=I.fpOk (by omega) nD
  have ho6:(((h1.update D (Obj.mapSeq fun _=>(#[]:Array Value))).push (seqObj "tuple" its.toArray 0)).push (seqObj "list" #[] 0)).get? D=some (seqObj "list" #[] e1):=Heap.get?_push_of_some _ (Heap.get?_push_of_some _ ho1)
  have I6:Inv X pins σ H {s with heap:=((h1.update D (Obj.mapSeq fun _=>(#[]:Array Value))).push (seqObj "tuple" its.toArray 0)).push (seqObj "list" #[] 0)}:=I.kept kp
  show wpAny (model X.prog X.w) X.A.in1.in1 _ _ _ {s with heap:=((h1.update D (Obj.mapSeq fun _=>(#[]:Array Value))).push (seqObj "tuple" its.toArray 0)).push (seqObj "list" #[] 0)}
  have hD0:X.s₀.heap.get? D=none:=Heap.get?_none_of_le (Nat.le_trans I.sz (by omega))
  generalize hs6:({s with heap:=((h1.update D (Obj.mapSeq fun _=>(#[]:Array Value))).push (seqObj "tuple" its.toArray 0)).push (seqObj "list" #[] 0)}:Shared)=s6 at I6⊢
  have ho6:s6.heap.get? D=some (seqObj "list" #[] e1):=by rw[←hs6];exact ho6
  have fin:∀(p:Array Nat) (out:Array Value),out=List.toArray (p.toList.map fun i=>its.getD i Value.none)→out.size<64→Pm its.length p→Srt key p its.length→
    Q (.ref D) {s6 with heap:=s6.heap.update D (Obj.mapSeq fun _=>out)}:=fun p out ho hz z1 z2=>by
   subst ho
   exact hQ p D _ _ z1 z2 hD0 (Zet (o:=seqObj "list" #[] 0) (xs:= #[]) (ys:= #[]) (n:=0) I6 fD) fD (get?_update_seq ho6 fun _=>_)
  try dsimp only
  by_cases h2:its.toArray.size<2
  ·rw[if_pos h2,if_pos h2]
   have h2':its.length<2:=by simpa using h2
   refine wpAny_bind (wpAny_pure ?_)
   rw[StateT.run_pure]
   refine wpAny_bind (wpAny_pure ?_)
   try dsimp only
   have eo:(arrOf (SortSt.mk' general' (its.toArray.zip its.toArray) #[] 7 none)).map (·.2)=List.toArray ((List.toArray (List.range its.length)).toList.map fun i=>its.getD i Value.none):=by
    show(its.toArray.zip its.toArray).map (·.2)=_
    apply Array.toList_inj.mp
    rw[Array.toList_map,ksk_zip]
    simp only[List.toList_toArray]
    rw[List.map_snd_zip (by omega)]
    apply List.ext_getElem
    ·simp
    ·intro i a b;simp[a]
   rw[eo]
   refine wpAny_bind (seqEpoch_at ho6 rfl ?_)
   refine wpAny_bind (listUpdate_at ho6 rfl ?_ (Nat.zero_le _) (by rw[List.size_toArray,sizeLine_eq];simp;omega))
   show wpAny _ _ (if((e1 !=e1)=true)then _ else _) _ _ _
   simp only[bne_self_eq_false,Bool.false_eq_true,if_false]
   refine wpAny_pure ⟨_,rfl,wpAny_pure ⟨_,rfl,fin (List.toArray (List.range its.length)) _ rfl (by simp;omega) (Array.Perm.refl _) (fun i j hij hj=>?_)⟩⟩
   have:i=j:=by omega
   subst this
   exact KeyOrd.kle_refl _
  ·rw[if_neg h2,if_neg h2]
   have h2':2≤its.length:=Nat.le_of_not_lt (by simpa using h2)
   obtain⟨κ,hκ,hlt⟩:=hc H s6 its kvs (Same.refl H) I6 rv rfl hk h2'
   refine wpAny_bind (wpAny_mono (hκ (fun κ' s'=>κ'=κ∧s'=s6) ⟨rfl,rfl⟩) (fun κ' s' z=>?_) fun _ _ z=>z.elim)
   obtain⟨rfl,rfl⟩:=z
   have g:=Good.wp (lt:=ltOf O key) (n:=its.length) (R:=fun q=>Pm its.length q∧Srt key q its.length) (cmp:=kas_ask X.prog X.w X.A.in1.in1 κ' its) (I:=fun s''=>s''=s') (Q:=fun q s''=>s''=s'∧Pm its.length q∧Srt key q its.length)
    (fun i j C s'' hi hj z hC=>by subst z;exact hlt i j C hi hj (hC _ rfl)) (fun q s'' z1 z2=>⟨z2,z1⟩) (Zga (key:=key) (by omega)) rfl
   refine wpAny_bind (wpAny_mono (kat_run (Q:=fun st s''=>∃p:Array Nat,s''=s'∧Pm its.length p∧Srt key p its.length∧arrOf st=p.map (kas_item (its.toArray.zip its.toArray))∧failedOf st=none) rfl h2' h64
    (fun p st s'' _ a1 a2 z=>⟨p,z.1,z.2.1,z.2.2,a1,a2⟩) g) (fun r s'' z=>?_) fun _ _ z=>z)
   obtain⟨⟨⟩,st⟩:=r
   obtain⟨p,rfl,z1,z2,z3,z4⟩:=z
   try dsimp only
   rw[kat_snds rfl z3]
   refine wpAny_bind (seqEpoch_at ho6 rfl ?_)
   refine wpAny_bind (listUpdate_at ho6 rfl ?_ (Nat.zero_le _) (by rw[List.size_toArray,List.length_map,Array.length_toList,z1.size,sizeLine_eq];omega))
   rw[z4]
   simp only[bne_self_eq_false,Bool.false_eq_true,if_false]
   exact wpAny_pure ⟨_,rfl,wpAny_pure ⟨_,rfl,fin p _ rfl (by rw[List.size_toArray,List.length_map,Array.length_toList,z1.size];exact h64) z1 z2⟩⟩
end
end TX
namespace L2
open PySem PySem.Spec PySem.Calls PyProof.Rows DL TX
section
variable{X:Cx}
noncomputable def Zto(K:PySem.W.Frag):List V→Hp→VK→Prop:=fun vs H Q=>∃l F ds ws p,vs=[.ref l]∧Same F H∧SqL K H l ws∧Reps K F ds ws∧KeysOk ds∧Zge ds p∧ws.length<64∧∀q,H q=none→Q (.ref q) (upd H q (.lst (p.map fun i=>ws.getD i .non)))
theorem Zlh(hu:X.A.units+64<cLine):Zbv X (.builtin "sorted") (Zto X.K):=by
 intro pins s σ H xs us Q I r h
 obtain⟨l,F,ds,ws,p0,rfl,le,hl,rr,ko,hp0,hz,q⟩:=h
 obtain⟨u,rfl,ru⟩:=Zdt r
 cases ru
 obtain⟨its,rvi,⟨o,n,ho,hcl,_,hd⟩,_⟩:=I.list hl
 have hlen:ds.length=its.length:=TX.Reps.lenV rr rvi
 have wlen:ws.length=its.length:=rvi.length
 obtain⟨enc,he,hdis⟩:=id ko.ord
 obtain⟨kb,hkb⟩:=id ko.key
 have hu2:X.A.in1.in1.units+16<cLine:=by show X.A.units+1+1+16<cLine;omega
 refine Zi8 (KeyOk:=fun j kv H=>Rep X.K H (ds.getD j .non) kv) (O:=strKind.toKeyOrd) (key:=Znf enc ds) I ⟨o,ho,hcl,n,hd⟩ (by omega) rvi (fun j kv e=>?_) (Zoe hu2 hkb he hlen) ?hQ
 ·have hj:j<ws.length:=(List.getElem?_eq_some_iff.mp e).1
  have h1:=Zcp rr j (by omega)
  have:ws.getD j .non=kv:=by rw[List.getD_eq_getElem?_getD,e];rfl
  rw[this]at h1
  exact h1.mono le
 case hQ=>
  intro p D s3 cc hp hs hD0 I3 fD gD
  have ep:p.toList=p0:=Zea ko (Zof he hlen hp hs) hp0
  rw[ep]at gD
  have bnd:∀i∈p0,i<its.length:=fun i hi=>by have:=List.mem_range.mp (hp0.1.mem_iff.mp hi);omega
  have new:Zan X.prog X.w (upd H D (.lst (p0.map fun i=>ws.getD i .non))) s3.heap D (.lst (p0.map fun i=>ws.getD i .non)):=by
   refine⟨?_,p0.map fun i=>its.getD i Value.none,cc,Zgf rvi bnd,gD⟩
   have:=hp0.1.length_eq
   rw[List.length_range]at this
   rw[List.length_map,this,sizeLine_eq]
   omega
  exact⟨.ref D,_,Inv.trackO I3 hD0 fD.1 fD.2.1 fD.2.2.2.2.1 fD.2.2.2.2.2 new,rfl,q D fD.1⟩
end
end L2
namespace DL
open PySem PySem.Spec PySem.Calls PyProof.Rows L2 TX
variable{K:PySem.W.Frag}
noncomputable def Zli:List D→Option SV
 | [.lst xs]=>srtK xs xs
 |_=>none
section
variable{Z:Ent K}{H:Hp}{σ:L2.St}{Q:VK}{E:Ends}
theorem Ztp:Zdv Z (Zto K) Zli:=by
 intro F H σ δ own vs ds sv Q s r e k
 unfold Zli at e
 split at e
 ·rename_i xs
  obtain⟨_,hz,ko,p,hp,rfl⟩:=Zle e
  cases r with
  |cons h t=>
   cases t
   obtain⟨a,us,rfl,ha,ru⟩:=h.lst s.le
   have bnd:∀i∈p,i<xs.length:=fun i hi=>List.mem_range.mp (hp.1.mem_iff.mp hi)
   exact⟨a,F,xs,us,p,rfl,s.le,ha,ru,ko,hp,by rw[←Reps.len2 ru];exact hz,fun q hq=>k.lst s (Zdl ru bnd) hq⟩
 ·cases e
end
section
variable{X:Cx}{Z:Ent X.K}{a b c:Expr}{fa fb fc:FE}{pos:Pos}
theorem Ztq{p:Pos}(hv:X.A.units+64<cLine)(hm:X.mg "sorted"=none)(ha:PE X a (Zb Z fa))(hg:Gl X "sorted":=by rfl)(he:starEach [a] X.env=(false,eval a X.env)::starEach [] X.env:=by rfl)(hpl:(backTo pos (starEach [] X.env)).any (·.1)=false:=by rfl):
  PE X (.Call (.Name "sorted" p) [a] [] pos) (Zb Z (Zaw Zli (Za fa Zk))):=Zg4 (Zlh hv) Ztp hm L2.Zdk (Zi ha Zag he) hg (by decide) (by decide) he hpl
end
end DL
namespace TX
open PySem PySem.Spec PySem.Calls PyProof.Rows L2 DL
@[simp] noncomputable def minG(lt:D→D→Option Bool):Nat→D→List D→Nat→Option Nat
 |b,_,[],_=>some b
 |b,kb,k::ks,j=>(lt k kb).bind fun c=>if c=true then minG lt j k ks (j+1)else minG lt b kb ks (j+1)
section
variable{X:Cx}{pins:List (Addr×Obj)}{σ:L2.St}{H:Hp}{s:Shared}{ws:List V}{f l I S:Addr}{fo:Obj}{ks:List D}
noncomputable def MSt(X:Cx)(pins:List (Addr×Obj))(σ:L2.St)(H0:Hp)(f:Addr)(fo:Obj)(I S l:Addr)(j:Nat)(best:Array Value)(H:Hp)(s:Shared):Prop:=
 Same H0 H∧Inv X pins σ H s∧FpOk X pins H I∧FpOk X pins H S∧FpOk X pins H f∧s.heap.IsListIter I l j∧(∃c,s.heap.get? S=some (seqObj "list" best c))∧s.heap.get? f=some fo
noncomputable def Zlj(X:Cx)(pins:List (Addr×Obj))(σ:L2.St)(H:Hp)(A:Around)(f:Addr)(fo:Obj)(ws:List V)(ks:List D):Prop:=
 ∀(j:Nat) (u:Value) (H1:Hp) (s1:Shared),j<ws.length→RelV (ws.getD j .non) u→Same H H1→Inv X pins σ H1 s1→s1.heap.get? f=some fo→FpOk X pins H1 f→
  wpAny (model X.prog X.w) A (call (.ref f) [u]) (fun k s2=>∃kv H2,Same H1 H2∧Inv X pins σ H2 s2∧Un (frs X.stack) [] H1 H2 s1.heap s2.heap∧RelV kv k∧Rep X.K H2 (ks.getD j .non) kv) (fun _ _=>False) s1
theorem Zc4:(toString "min"++toString ".loop":String)="min.loop":=by decide
theorem Zif{A:Around}{j i:Nat}{best:Array Value}{H1:Hp}{u:Value}
  (hk:Zlj X pins σ H A f fo ws ks) (hj:j<ws.length) (hu:RelV (ws.getD j .non) u) (m:MSt X pins σ H f fo I S l i best H1 s):
  wpAny (model X.prog X.w) A (call (.ref f) [u]) (fun k s2=>∃kv H2,RelV kv k∧Rep X.K H2 (ks.getD j .non) kv∧Same H1 H2∧MSt X pins σ H f fo I S l i best H2 s2) (fun _ _=>False) s:=by
 obtain⟨sm,I1,fI,fS,ff,⟨oI,gI,cI,dI⟩,⟨c,gS⟩,gf⟩:=m
 refine wpAny_mono (hk j u H1 s hj hu sm I1 gf ff) (fun k s2 z=>?_) fun _ _ z=>z.elim
 obtain⟨kv,H2,sm2,I2,un,rk,rp⟩:=z
 have nI:=un.free I _ gI fI.1 (by simp)
 have nS:=un.free S _ gS fS.1 (by simp)
 have nf:=un.free f _ gf ff.1 (by simp)
 have gI2:=un.keep I _ gI fI.1 (Inv.notStk I1 fI) (by simp)
 have gS2:=un.keep S _ gS fS.1 (Inv.notStk I1 fS) (by simp)
 have gf2:=un.keep f _ gf ff.1 (Inv.notStk I1 ff) (by simp)
 exact⟨kv,H2,rk,rp,sm2,sm.trans sm2,I2,fpAt fI nI,fpAt fS nS,fpAt ff nf,⟨oI,gI2,cI,dI⟩,⟨c,gS2⟩,gf2⟩
theorem MSt.turn{j:Nat}{best:Array Value}{H1:Hp}{h':Heap}{tk:Nat}(hIS:I≠S)(hIf:I≠f)(m:MSt X pins σ H f fo I S l j best H1 s)(k:∀b o,b∉[I]→s.heap.get? b=some o→h'.get? b=some o)(hi:h'.IsListIter I l (j+1)):
  MSt X pins σ H f fo I S l (j+1) best H1 {s with heap:=h',toks:=tk}:=by
 obtain⟨sm,I1,fI,fS,ff,gI,⟨c,gS⟩,gf⟩:=m
 refine⟨sm,I1.turned (fun b o hb e=>k b o (by simpa using hb) e) fI.1 fI.2.1 fI.2.2.2.1 fI.2.2.2.2.1 fI.2.2.2.2.2,fI,fS,ff,hi,⟨c,k _ _ (by simpa using hIS.symm) gS⟩,k _ _ (by simpa using hIf.symm) gf⟩
theorem MSt.gone{j:Nat}{best:Array Value}{H1:Hp}{h':Heap}{tk:Nat}(m:MSt X pins σ H f fo I S l j best H1 s)(k:∀b o,b∉[I]→s.heap.get? b=some o→h'.get? b=some o):Inv X pins σ H1 {s with heap:=h',toks:=tk}:=by
 obtain⟨sm,I1,fI,fS,ff,gI,⟨c,gS⟩,gf⟩:=m
 exact I1.turned (fun b o hb e=>k b o (by simpa using hb) e) fI.1 fI.2.1 fI.2.2.2.1 fI.2.2.2.2.1 fI.2.2.2.2.2
theorem MSt.put{j:Nat}{best best':Array Value}{H1:Hp}(hIS:I≠S)(hSf:S≠f)(m:MSt X pins σ H f fo I S l j best H1 s):MSt X pins σ H f fo I S l j best' H1 {s with heap:=s.heap.update S (Obj.mapSeq fun _=>best')}:=by
 obtain⟨sm,I1,fI,fS,ff,⟨oI,gI,cI,dI⟩,⟨c,gS⟩,gf⟩:=m
 refine⟨sm,Zet (o:=seqObj "list" #[] 0) (xs:= #[]) (ys:= #[]) (n:=0) I1 fS,fI,fS,ff,⟨oI,?_,cI,dI⟩,⟨_,get?_update_seq gS fun _=>best'⟩,?_⟩
 ·show(s.heap.update S _).get? I=_
  rw[Heap.get?_update_ne _ _ _ _ hIS];exact gI
 ·show(s.heap.update S _).get? f=_
  rw[Heap.get?_update_ne _ _ _ _ (Ne.symm hSf)];exact gf
theorem Zlk{α:Type}{l r:List α}{j:Nat}{k:α}(h:l.drop j=k::r):l[j]? =some k∧l.drop (j+1)=r:=by
 have hj:j<l.length:=by
  rcases Nat.lt_or_ge j l.length with z|z
  ·exact z
  ·rw[List.drop_of_length_le z]at h;cases h
 rw[List.drop_eq_getElem_cons hj]at h
 obtain⟨h1,h2⟩:=List.cons.inj h
 exact⟨by rw[List.getElem?_eq_getElem hj,h1],h2⟩
theorem Zll:∀{ws:List V} {its:List Value},Vals ws its→∀{j:Nat} {v:Value},its[j]? =some v→RelV (ws.getD j .non) v:=by
 intro ws its h
 induction h with
 |nil=>intro j v z;simp at z
 |cons r t ih=>
  intro j v z
  cases j with
  |zero=>
   simp only[List.getElem?_cons_zero,Option.some.injEq]at z
   subst z
   exact r
  |succ j=>exact ih (by simpa using z)
theorem Zev{R:Result→Shared→Prop}{kw:List (Str×Value)}{m:Nat}(hh:X.A.handled=none)(hu2:X.A.units+32<cLine)(hIS:I≠S)(hIf:I≠f)(hSf:S≠f)(hlI:l≠I)(hk:Zlj X pins σ H X.A.in1 f fo ws ks)(hln:ks.length=ws.length)
  (hl:∀H' s',Same H H'→Inv X pins σ H' s'→∃its:List Value,Vals ws its∧s'.heap.IsList l its.toArray)
  (hR:∀H' s' v,Same H H'→Inv X pins σ H' s'→RelV (ws.getD m .non) v→R (.ok (.ret v)) s'):
  ∀(r:List D) (j b:Nat) (vb kbV:Value) (kvb:V) (H1:Hp) (s:Shared),ks.drop j=r→j≤ws.length→MSt X pins σ H f fo I S l j #[vb,kbV] H1 s→RelV (ws.getD b .non) vb→RelV kvb kbV→Rep X.K H1 (ks.getD b .non) kvb→minG (ltD 16) b (ks.getD b .non) r j=some m→
   codeAny (model X.prog X.w) X.A (.builtin "min.loop" ⟨[.ref I,.ref f,.ref S],kw⟩) R s
 | [],j,b,vb,kbV,kvb,H1,s,hr,hjl,ms,hb,rb,rpb,e=>by
  obtain rfl:b=m:=by simpa using e
  have hge:ks.length≤j:=by
   rcases Nat.lt_or_ge j ks.length with z|z
   ·rw[List.drop_eq_getElem_cons z]at hr;cases hr
   ·exact z
  obtain⟨sm,I1,fI,fS,ff,gI,⟨c,gS⟩,gf⟩:=id ms
  obtain⟨its,rvi,hil⟩:=hl H1 s sm I1
  have wl:ws.length=its.length:=rvi.length
  have W:=Walks.list (prog:=X.prog) (w:=X.w) (A:=X.A.in1) hh I l hlI its.toArray
  refine codeAny_builtin PySem.F.entry_min_loop ?_
  rw[Around.under_plainId PySem.F.plain_min_loop _]
  show wpAny _ X.A.in1 (seqItems? (.ref S) >>=_) _ _ _
  refine wpAny_bind (wpAny_seqItems gS rfl ?_)
  show wpAny _ X.A.in1 (tryCatch (pyNext (.ref I)) _ >>=_) _ _ _
  have hje:j=its.toArray.size:=by rw[List.size_toArray];omega
  refine wpAny_bind (wpAny_tryCatch (W.done _ _ _ ⟨by rw[←hje];exact gI,hil⟩ fun h' tk' hk'=>?_))
  have gS':=hk' S _ (by simpa using hIS.symm) gS
  show wpAny _ X.A.in1 (updateSeq S (fun _=> #[]) >>=_) _ _ _
  refine wpAny_bind ?_
  refine wpAny_updateSeq gS' rfl (wpAny_bind (wpAny_letGo (wpAny_pure ?_)))
  have I2:=ms.gone (tk:=tk') hk'
  exact hR H1 _ vb sm (Zet (o:=seqObj "list" #[] 0) (xs:= #[]) (ys:= #[]) (n:=0) (t':=tk') (g:=fun _=>(#[]:Array Value)) I2 fS) hb
 |k0::r,j,b,vb,kbV,kvb,H1,s,hr,hjl,ms,hb,rb,rpb,e=>by
  obtain⟨hkj,hr2⟩:=Zlk hr
  have hj:j<ws.length:=by have:=(List.getElem?_eq_some_iff.mp hkj).1;omega
  have gk:ks.getD j .non=k0:=by rw[List.getD_eq_getElem?_getD,hkj];rfl
  obtain⟨sm,I1,fI,fS,ff,gI,⟨c,gS⟩,gf⟩:=id ms
  obtain⟨its,rvi,hil⟩:=hl H1 s sm I1
  have wl:ws.length=its.length:=rvi.length
  have W:=Walks.list (prog:=X.prog) (w:=X.w) (A:=X.A.in1) hh I l hlI its.toArray
  refine codeAny_builtin PySem.F.entry_min_loop ?_
  rw[Around.under_plainId PySem.F.plain_min_loop _]
  show wpAny _ X.A.in1 (seqItems? (.ref S) >>=_) _ _ _
  refine wpAny_bind (wpAny_seqItems gS rfl ?_)
  show wpAny _ X.A.in1 (tryCatch (pyNext (.ref I)) _ >>=_) _ _ _
  refine wpAny_bind (wpAny_tryCatch (W.item j _ _ _ (by rw[List.size_toArray];omega) ⟨gI,hil⟩ fun v h' tk' hP hst' hk'=>?_))
  have hv:RelV (ws.getD j .non) v:=Zll rvi (by simpa using hP)
  have ms1:=ms.turn (tk:=tk') hIS hIf hk' hst'.1
  show wpAny _ X.A.in1 (tryCatch (holding [v] (call (.ref f) [v])) _ >>=_) _ _ _
  refine wpAny_bind (wpAny_tryCatch (wpAny_holding (wpAny_mono (Zif hk hj hv ms1) (fun x s'' he=>?_) fun _ _ hF=>hF.elim)))
  obtain⟨kv,H2,rk,rp,sm2,ms2⟩:=he
  obtain⟨sm3,I2,fI2,fS2,ff2,gI2,⟨c2,gS2⟩,gf2⟩:=id ms2
  have e:(ltD 16 k0 (ks.getD b .non)).bind (fun c=>if c=true then minG (ltD 16) j k0 r (j+1)else minG (ltD 16) b (ks.getD b .non) r (j+1))=some m:=e
  obtain⟨c0,e1,e2⟩:=Option.bind_eq_some_iff.mp e
  rw[←gk]at e1
  have lt:=Zie I2 (Same.refl H2) 16 X.A.in1 _ _ _ _ _ _ _ (by show X.A.units+1+16<cLine;omega) rp rk (rpb.mono sm2) rb e1
  show wpAny _ X.A.in1 (tryCatch (holding [v,x] (richCompare .Lt x kbV >>=_)) _ >>=_) _ _ _
  refine wpAny_bind (wpAny_tryCatch (wpAny_holding (wpAny_bind (lt X.prog X.w _ _ ?_))))
  refine wpAny_bind (wpAny_holding (wpAny_truthy_bool ?_))
  refine wpAny_bind (wpAny_letGo (wpAny_pure ?_))
  cases c0 with
  |true=>
   simp only[if_true]at e2⊢
   refine wpAny_bind ?_
   refine wpAny_updateSeq gS2 rfl (wpAny_bind (wpAny_letGo ?_))
   rw[Zc4]
   rw[←gk]at e2
   exact wpAny_pure ⟨plainId_quiet PySem.F.plain_min_loop _,Zev hh hu2 hIS hIf hSf hlI hk hln hl hR r (j+1) j v x kv H2 _ hr2 hj (ms2.put hIS hSf) hv rk rp e2⟩
  |false=>
   simp only[Bool.false_eq_true,if_false]at e2⊢
   refine wpAny_bind (wpAny_letGo ?_)
   rw[Zc4]
   exact wpAny_pure ⟨plainId_quiet PySem.F.plain_min_loop _,Zev hh hu2 hIS hIf hSf hlI hk hln hl hR r (j+1) b vb kbV kvb H2 _ hr2 hj ms2 hb rb (rpb.mono sm2) e2⟩
end
end TX
namespace TX
open PySem PySem.Spec PySem.Calls PyProof.Rows L2 DL
open PySem.W (CodeHd kla_fn kla_obj)
theorem Zng(a v u:Value):argsOk "min" ⟨[a],[(Str.ofString "key",v),(Str.ofString "default",u)]⟩:=by unfold argsOk;kernel_rfl
@[simp] noncomputable def minI(lt:D→D→Option Bool):List D→Option (Option Nat)
 | []=>some none
 |k::ks=>(minG lt 0 k ks 1).bind fun m=>some (some m)
section
variable{X:Cx}{pins:List (Addr×Obj)}{σ:L2.St}{H:Hp}{s:Shared}{ws:List V}{f l:Addr}{fo:Obj}{ks:List D}{Q:Value→Shared→Prop}{E:Value→Shared→Prop}
theorem Znh{m:Option Nat}(hh:X.A.handled=none)(hu2:X.A.units+32<cLine)(I:Inv X pins σ H s)(hl0:l<s.heap.objs.size)(gf:s.heap.get? f=some fo)(ff:FpOk X pins H f)(hk:Zlj X pins σ H X.A.in1 f fo ws ks)(hln:ks.length=ws.length)
  (hl:∀H' s',Same H H'→Inv X pins σ H' s'→∃its:List Value,Vals ws its∧s'.heap.IsList l its.toArray) (hm:minI (ltD 16) ks=some m)
  (hQ:∀H' s' v,Same H H'→Inv X pins σ H' s'→RelV ((m.map fun i=>ws.getD i .non).getD .non) v→Q v s'):
  wpAny (model X.prog X.w) X.A (call (.builtin "min") [.ref l] [(Str.ofString "key",.ref f),(Str.ofString "default",.none)]) Q E s:=by
 refine kmk_tree PySem.F.kind_min PySem.F.plain_min PySem.F.entry_min (Zng _ _ _) ?_
 show wpAny _ X.A.in1 (Builtin.Builtins.bindParams "min" ["key","default"] 0 ⟨[],[(Str.ofString "key",.ref f),(Str.ofString "default",.none)]⟩>>=_) _ _ s
 refine wpAny_bind (wpAny_of_eq (show Builtin.Builtins.bindParams "min" ["key","default"] 0 ⟨[],[(Str.ofString "key",.ref f),(Str.ofString "default",.none)]⟩=pure [some (.ref f),some .none]from rfl) ?_)
 refine wpAny_bind (wpAny_pure ?_)
 obtain⟨its0,_,hil0⟩:=hl H s (Same.refl H) I
 refine wpAny_bind (wpAny_pyIter_list hil0 ?_)
 refine wpAny_bind (wpAny_newList ?_ (Nat.zero_le _))
 rw[Zc4]
 have hS:(s.heap.push {cls:=.type "list_iterator",data:=.fields #[.ref l,.int 0 0]}).objs.size=s.heap.objs.size+1:=size_push' ..
 refine wpAny_pure ⟨plainId_quiet PySem.F.plain_min_loop _,?_⟩
 have gI:((s.heap.push {cls:=.type "list_iterator",data:=.fields #[.ref l,.int 0 0]}).push (seqObj "list" #[] 0)).get? s.heap.objs.size=some {cls:=.type "list_iterator",data:=.fields #[.ref l,.int 0 0]}:=
  Heap.get?_push_of_some _ (Heap.get?_push_size _ rfl)
 have gS:((s.heap.push {cls:=.type "list_iterator",data:=.fields #[.ref l,.int 0 0]}).push (seqObj "list" #[] 0)).get? (s.heap.objs.size+1)=some (seqObj "list" #[] 0):=by rw[←hS];exact Heap.get?_push_size _ rfl
 have hf1: @LT.lt Nat _ f s.heap.objs.size:=Heap.lt_size gf
 have kp:∀b o,s.heap.get? b=some o→((s.heap.push {cls:=.type "list_iterator",data:=.fields #[.ref l,.int 0 0]}).push (seqObj "list" #[] 0)).get? b=some o:=fun b o e=>Heap.get?_push_of_some _ (Heap.get?_push_of_some _ e)
 have nI:H s.heap.objs.size=none:=I.hok.fresh (Nat.le_refl _)
 have nS:H (s.heap.objs.size+1)=none:=I.hok.fresh (Nat.le_succ _)
 have ms:MSt X pins σ H f fo s.heap.objs.size (s.heap.objs.size+1) l 0 #[] H {s with heap:=(s.heap.push {cls:=.type "list_iterator",data:=.fields #[.ref l,.int 0 0]}).push (seqObj "list" #[] 0)}:=
  ⟨Same.refl H,I.kept kp,I.fpOk (Nat.le_refl _) nI,I.fpOk (Nat.le_succ _) nS,ff,⟨_,gI,rfl,rfl⟩,⟨_,gS⟩,kp _ _ gf⟩
 have hIS:s.heap.objs.size≠s.heap.objs.size+1:=Nat.ne_of_lt (Nat.lt_succ_self _)
 have hIf:s.heap.objs.size≠f:=Nat.ne_of_gt hf1
 have hSf:s.heap.objs.size+1≠f:=Nat.ne_of_gt (Nat.lt_succ_of_lt hf1)
 have hlI:l≠s.heap.objs.size:=Nat.ne_of_lt hl0
 rw[hS]
 show codeAny (model X.prog X.w) X.A (.builtin "min.loop" ⟨[.ref s.heap.objs.size,.ref f,.ref (s.heap.objs.size+1)],[(Str.ofString "default",.none)]⟩) _ _
 obtain⟨its,rvi,hil⟩:=hl H _ (Same.refl H) ms.2.1
 have wl:ws.length=its.length:=rvi.length
 have W:=Walks.list (prog:=X.prog) (w:=X.w) (A:=X.A.in1) hh s.heap.objs.size l hlI its.toArray
 refine codeAny_builtin PySem.F.entry_min_loop ?_
 rw[Around.under_plainId PySem.F.plain_min_loop _]
 show wpAny _ X.A.in1 (seqItems? (.ref (s.heap.objs.size+1)) >>=_) _ _ _
 refine wpAny_bind (wpAny_seqItems gS rfl ?_)
 show wpAny _ X.A.in1 (tryCatch (pyNext (.ref s.heap.objs.size)) _ >>=_) _ _ _
 cases hks:ks with
 |nil=>
  rw[hks]at hm hln
  obtain rfl:none=m:=by simpa using hm
  have h0:its.toArray.size=0:=by rw[List.size_toArray,←wl,←hln];rfl
  refine wpAny_bind (wpAny_tryCatch (W.done _ _ _ ⟨by rw[h0];exact⟨_,gI,rfl,rfl⟩,hil⟩ fun h' tk' hk'=>?_))
  show wpAny _ X.A.in1 (rule _ >>=_) _ _ _
  refine wpAny_bind (wpAny_rule (wpAny_pure ?_))
  exact hQ H _ _ (Same.refl H) (ms.gone hk') rfl
 |cons k0 r=>
  rw[hks]at hm
  have hm:(minG (ltD 16) 0 k0 r 1).bind (fun m=>some (some m))=some m:=hm
  obtain⟨mi,e1,e2⟩:=Option.bind_eq_some_iff.mp hm
  cases e2
  have hj:0<ws.length:=by rw[←hln,hks];exact Nat.succ_pos _
  refine wpAny_bind (wpAny_tryCatch (W.item 0 _ _ _ (by rw[List.size_toArray];omega) ⟨⟨_,gI,rfl,rfl⟩,hil⟩ fun v h' tk' hP hst' hk'=>?_))
  have hv:RelV (ws.getD 0 .non) v:=Zll rvi (by simpa using hP)
  have ms1:=ms.turn (tk:=tk') hIS hIf hk' hst'.1
  show wpAny _ X.A.in1 (tryCatch (holding [v] (call (.ref f) [v])) _ >>=_) _ _ _
  refine wpAny_bind (wpAny_tryCatch (wpAny_holding (wpAny_mono (Zif hk hj hv ms1) (fun x s'' he=>?_) fun _ _ hF=>hF.elim)))
  obtain⟨kv,H2,rk,rp,sm2,ms2⟩:=he
  obtain⟨sm3,I2,fI2,fS2,ff2,gI2,⟨c2,gS2⟩,gf2⟩:=id ms2
  show wpAny _ X.A.in1 (updateSeq (s.heap.objs.size+1) (fun _=> #[v,x]) >>=_) _ _ _
  refine wpAny_bind ?_
  refine wpAny_updateSeq gS2 rfl ?_
  rw[Zc4]
  have g0:ks.getD 0 .non=k0:=by rw[hks];rfl
  refine wpAny_pure ⟨plainId_quiet PySem.F.plain_min_loop _,Zev (m:=mi) hh hu2 hIS hIf hSf hlI hk hln hl (fun H' s' v a b r=>hQ H' s' v a b r) r 1 0 v x kv H2 _ (by rw[hks];rfl) hj (ms2.put hIS hSf) hv rk rp (by rw[g0];exact e1)⟩
end
end TX
namespace TX
open PySem PySem.Spec PySem.Calls PyProof.Rows L2 DL
open PySem.W (CodeHd kla_fn kla_obj)
@[simp] noncomputable def minF(fb:FE)(js:List Nat)(d:D)(δ:DSt):Option (RV×DSt):=match d with
 | .lst xs=>(frzAll (js.map RV.bw) δ).bind fun r=>(keysF fb r.1 xs).bind fun ks=>(minI (ltD 16) ks).bind fun m=>some (.tmp (.fz ((m.map fun i=>xs.getD i .non).getD .non)),r.2)
 |_=>none
@[simp] noncomputable def minLF(fa:FE)(js:List Nat)(fb:FE):FE:=fun δ=>(fa δ).bind fun p=>(frz p.1 p.2).bind fun q=>minF fb js q.1 q.2
theorem boot_min:bootBuiltins "min"=some (.builtin "min"):=by kernel_rfl
theorem Zhc{lt:D→D→Option Bool}:∀{ks:List D} {b j m:Nat} {kb:D},minG lt b kb ks j=some m→b<j→m<j+ks.length
 | [],b,j,m,kb,h,hb=>by
  obtain rfl:b=m:=by simpa using h
  simpa using hb
 |k::ks,b,j,m,kb,h,hb=>by
  have h:(lt k kb).bind (fun c=>if c=true then minG lt j k ks (j+1)else minG lt b kb ks (j+1))=some m:=h
  obtain⟨c,_,h2⟩:=Option.bind_eq_some_iff.mp h
  rw[List.length_cons]
  cases c with
  |true=>have:=Zhc (b:=j) (by simpa using h2) (Nat.lt_succ_self _);omega
  |false=>have:=Zhc (b:=b) (by simpa using h2) (by omega);omega
theorem Zp7{lt:D→D→Option Bool}{ks:List D}{m:Nat}(h:minI lt ks=some (some m)):m<ks.length:=by
 cases ks with
 |nil=>simp at h
 |cons k ks=>
  have h:(minG lt 0 k ks 1).bind (fun m=>some (some m))=some (some m):=h
  obtain⟨m',e1,e2⟩:=Option.bind_eq_some_iff.mp h
  cases e2
  have:=Zhc e1 (Nat.lt_succ_self _)
  rw[List.length_cons];omega
section
variable{X:Cx}
theorem e_minL{Z:Ent X.K}{a:Expr}{fa fb:FE}{x:Str}{fs:List Str}{js:List Nat}{params:Arguments}{body:Expr}{sc:Scope}{c P:Addr}{q:Str}{p1 p2 lp kp np np2:Pos}{ck:Nat}{clos:List (Str×Addr)}
  (hr:Room 2 X.A) (hc:X.calm=true) (hv:X.A.units+64<cLine) (h1:X.mg "min"=none) (hcode:X.env.code= .ref c) (C:CodeHd X.base c P) (hT:Z.h P=some (.tab q)) (hq:X.env.qual++ "<lambda>"=q) (B:BMain X.mg X.base) (S:LamS x fs sc)
  (hcl:closureFor sc X.env=pure clos) (hdef:defaultsOf params X.env=([],[])) (hbind:∀cl pm c ctv u,bindArgs (kla_fn "<lambda>" q params body sc cl pm (.ref c) ctv) ⟨[u],[]⟩=pure [(x,u)])
  (hc2:∀y c,clos.lookup y=some c→X.env.cells.lookup y=some c) (has:∀y,sc.names.lookup y=some .free→∃c,clos.lookup y=some c)
  (hjl:js.length=fs.length) (hjs:∀(i j:Nat) (y:Str),js[i]? =some j→fs[i]? =some y→X.N[j]? =some y∧X.env.scope.names.lookup y=some .cell∧sc.names.lookup y=some .free)
  (ha:PE X a (Zb Z fa)) (hb:∀(f c:Addr) (A:Around) (s1:Shared) (H1 F1:Hp),(cxL X (x::fs) q sc f c clos A s1 H1).A.units+1<cLine→PE (cxL X (x::fs) q sc f c clos A s1 H1) body (Zb (ent H1 F1:Ent X.K) fb))
  (g1:Gl X "min":=by rfl) (he1:starEach [a] X.env=(false,eval a X.env)::starEach [] X.env:=by rfl) (hp1:(backTo p2 (starEach [] X.env)).any (·.1)=false:=by rfl):
  PE X (.Call (.Name "min" p1) [a] [⟨some "key",.Lambda params body sc lp,kp⟩,⟨some "default",.Constant .none ck np,np2⟩] p2) (Zb Z (minLF fa js fb)):=by
 intro pins s σ H Q I h
 obtain⟨F,δ,own,rv,δ',sr,e,k⟩:=h
 obtain⟨⟨rv1,δ1⟩,e1,e2⟩:=Option.bind_eq_some_iff.mp e
 obtain⟨⟨d,δ2⟩,e3,e4⟩:=Option.bind_eq_some_iff.mp e2
 refine wpAny_Call_Name_kw (Zc5 I g1 h1 TX.boot_min ?_)
 refine callWith_builtin_kwB (by rw[he1];show(false|| (backTo p2 (starEach [] X.env)).any (·.1))=false;rw[hp1];rfl) rfl ?_
 rw[he1]
 show wpAny _ _ (evalArgs (.builtin "min") true ((false,eval a X.env)::backTo p2 (starEach [] X.env)) _) _ _ s
 refine evalArgs_kwB rfl (Calls.spliced_cons (wpAny_mono (ha pins s σ H (fun v H'=>∃F' own',Same H H'∧Same F F'∧SR Z F' H' σ δ1 own'∧Zix Z F' H' σ own' rv1 v) I ⟨F,δ,own,rv1,δ1,sr,e1,fun v H' F' own' a1 a2 a3 a4=>⟨F',own',a1,a2,a3,a4⟩⟩) (fun u s1 z=>?_) fun _ _ z=>z))
 obtain⟨v,H1,I1,ru,F1,own1,sm1,sf1,sr1,rr1⟩:=z
 show wpAny _ _ (spliced []) _ _ _
 refine Calls.spliced_nil ?_
 obtain⟨F2,sf2,sr2,rr2⟩:=sr1.settleR rr1
 obtain⟨F3,own3,sf3,sr3,rep3⟩:=sr2.frzR rr2 e3
 cases d with
 |lst xs=>
  have e4:(frzAll (js.map RV.bw) δ2).bind (fun r=>(keysF fb r.1 xs).bind fun ks=>(minI (ltD 16) ks).bind fun m=>some (RV.tmp (.fz ((m.map fun i=>xs.getD i .non).getD .non)),r.2))=some (rv,δ'):=e4
  obtain⟨⟨cs,δ3⟩,e5,e6⟩:=Option.bind_eq_some_iff.mp e4
  obtain⟨ks,e7,e8⟩:=Option.bind_eq_some_iff.mp e6
  obtain⟨m,e9,e10⟩:=Option.bind_eq_some_iff.mp e8
  cases e10
  obtain⟨F4,own4,vs,sf4,sr4,r4,l4,g4⟩:=Zod sr3 e5
  have rep4:=rep3.mono sf4
  refine kws_cons ?_
  have hT1:H1 P=some (.tab q):=sr4.old _ _ hT
  refine Znd I1 hcode C hT1 hq B hcl hdef fun f c' pm ctv oc H2 s2 sm2 nf I2 gf hcd icd=>?_
  refine kws_cons ?_
  refine Constant_none ?_
  refine kws_nil ?_
  have sr5:=sr4.grow sm2
  cases rep4 with
  | @lst al xs' ws hsq rws=>
   cases ru
   obtain⟨its,rvi,hil⟩:=Zaq I2 sr5.le hsq
   have hlen:xs.length=its.length:=Reps.lenV rws rvi
   have wlen:ws.length=its.length:=rvi.length
   have kl:=(Zeu e7).1
   have hr1:Room 1 X.A.in1:=hr.in1
   have hl0:al<s2.heap.objs.size:=by obtain⟨o,ho,_⟩:=hil;exact Heap.lt_size ho
   have keyfact:∀(j:Nat) (dj:D),xs[j]? =some dj→∃kd,ks.getD j .non=kd∧keyF fb cs dj=some kd:=fun j dj hj=>by
    obtain⟨kd,a1,a2⟩:=(Zeu e7).2 j dj hj
    exact⟨kd,by rw[List.getD_eq_getElem?_getD,a1];rfl,a2⟩
   show wpAny _ _ (call (.builtin "min") [.ref al] [(Str.ofString "key",.ref f),(Str.ofString "default",.none)]) _ _ s2
   refine Znh (m:=m) (ks:=ks) (ws:=ws) (I1.ok.hd hc) (by omega) I2 hl0 gf nf ?hcall (by omega) ?hlst e9 ?hQ
   case hlst=>
    intro H' s' sm' I'
    exact Zaq I' ((sr5.le).trans sm') hsq
   case hcall=>
    intro j u H3 s3 hj rw2 sm3 I3 gf3 ff3
    have hjx:j<xs.length:=by omega
    have rw1:=Zcp rws j hjx
    have hxj:xs[j]? =some (xs.getD j .non):=by rw[List.getD_eq_getElem?_getD,List.getElem?_eq_getElem hjx];rfl
    obtain⟨kd,ek,ekf⟩:=keyfact j _ hxj
    have ekf:(fb (some (.fz (xs.getD j .non))::cs.map fun c=>some (.fz c))).bind (fun p=>(frz p.1 p.2).bind fun q=>some q.1)=some kd:=ekf
    obtain⟨⟨rvk,δk⟩,f1,f2⟩:=Option.bind_eq_some_iff.mp ekf
    obtain⟨⟨dk,δk2⟩,f3,f4⟩:=Option.bind_eq_some_iff.mp f2
    cases f4
    have le3:Same F4 H3:=(sr5.le).trans sm3
    have hcr:=Ztj I3.hok (sm3 _ _ hcd) icd
    refine wpAny_mono (Znc (ws:=vs.map some) S hr1 I3.ok.frames I3 gf3 hcr (hbind _ _ _ _ _) hc2 has (by rw[List.length_map,l4,hjl]) (fun i y w' z1 z2=>?_) rw2 (hb f c' X.A.in1 s3 H3 F4 (by show X.A.units+1+3+1<cLine;omega)) (Q:=fun kv H4=>Same H3 H4∧Rep X.K H4 dk kv) ⟨F4,_,_,rvk,δk,Ztm le3 rw1 r4,f1,fun kv H4 F5 own5 a1 a2 a3 a4=>?_⟩) (fun k s4 z=>?_) fun _ _ z=>z
    ·have z2':(vs.map some)[i]? =some (some w'):=z2
     rw[List.getElem?_map]at z2'
     have hiv:i<vs.length:=by
      rcases Nat.lt_or_ge i vs.length with zz|zz
      ·exact zz
      ·rw[List.getElem?_eq_none zz]at z2';cases z2'
     obtain⟨jj,hjj⟩:∃jj,js[i]? =some jj:=⟨_,List.getElem?_eq_getElem (by omega)⟩
     obtain⟨b1,b2,b3⟩:=hjs i jj y hjj z1
     have hvi:vs[i]? =some w':=by
      cases hq:vs[i]? with
      |none=>rw[hq]at z2';cases z2'
      |some v2=>rw[hq]at z2';simp at z2';rw[z2']
     exact⟨jj,b1,g4 i jj w' hjj hvi,b2,b3⟩
    ·obtain⟨F6,sf6,sr6,rr6⟩:=a3.settleR a4
     obtain⟨F7,own7,sf7,sr7,rep7⟩:=sr6.frzR rr6 f3
     exact⟨a1,rep7.mono sr7.le⟩
    ·obtain⟨kv,H4,os,bare,un,hok,rk,sm4,rep⟩:=z
     refine⟨kv,H4,sm4,?_,un,rk,by rw[ek];exact rep⟩
     obtain⟨hh,gg,dd,tt,os'⟩:=s4
     obtain rfl:os'=s3.os:=os
     exact I3.call (h':=hh) (g':=gg) (d':=dd) (t':=tt) (ch:=[]) un hok bare (fun b z=>absurd z (by simp))
   case hQ=>
    intro H3 s3 v3 sm3 I3 rv3
    have sr6:=sr5.grow sm3
    cases m with
    |none=>exact⟨.non,H3,I3,rv3,k .non H3 F4 own4 ((sm1.trans sm2).trans sm3) (((sf1.trans sf2).trans sf3).trans sf4) sr6 ⟨[],TmpOk.fz .non⟩⟩
    |some i=>
     have hi:i<xs.length:=by have:=Zp7 e9;omega
     exact⟨ws.getD i .non,H3,I3,rv3,k _ H3 F4 own4 ((sm1.trans sm2).trans sm3) (((sf1.trans sf2).trans sf3).trans sf4) sr6 ⟨[],TmpOk.fz (Zcp rws i hi)⟩⟩
 |_=>cases e4
end
end TX
namespace DL
open PySem PySem.Spec PySem.Calls PyProof.Rows L2 TX
section
variable{X:Cx}{Z:Ent X.K}{a b:Expr}{fa fb:FE}{pos:Pos}
theorem Ztr(x:Str){params:Arguments}{body:Expr}{sc:Scope}{c P:Addr}{q:Str}{p1 lp kp np np2:Pos}{ck:Nat}
  (hr:Room 2 X.A) (hv:X.A.units+64<cLine) (h1:X.mg "min"=none) (C:PySem.W.CodeHd X.base c P) (hT:Z.h P=some (.tab q)) (B:BMain X.mg X.base)
  (ha:PE X a (Zb Z fa)) (hb:∀(f c:Addr) (A:Around) (s1:Shared) (H1 F1:Hp),(cxL X [x] q sc f c [] A s1 H1).A.units+1<cLine→PE (cxL X [x] q sc f c [] A s1 H1) body (Zb (ent H1 F1:Ent X.K) fb))
  (hc:X.calm=true:=by rfl) (hcode:X.env.code= .ref c:=by rfl) (hq:X.env.qual++ "<lambda>"=q:=by rfl) (S:LamS x [] sc:=by exact⟨rfl,rfl,rfl,rfl,by decide+kernel,by decide⟩) (hcl:closureFor sc X.env=pure []:=by rfl) (hdef:defaultsOf params X.env=([],[]):=by rfl)
  (hbind:∀cl pm c ctv u,bindArgs (PySem.W.kla_fn "<lambda>" q params body sc cl pm (.ref c) ctv) ⟨[u],[]⟩=pure [(x,u)]:=by intro _ _ _ _ _;rfl) (has:hasB sc.names []=true:=by rfl)
  (g1:Gl X "min":=by rfl) (he1:starEach [a] X.env=(false,eval a X.env)::starEach [] X.env:=by rfl) (hp1:(backTo pos (starEach [] X.env)).any (·.1)=false:=by rfl):
  PE X (.Call (.Name "min" p1) [a] [⟨some "key",.Lambda params body sc lp,kp⟩,⟨some "default",.Constant .none ck np,np2⟩] pos) (Zb Z (minLF fa [] fb)):=
 TX.e_minL (fs:=[]) (js:=[]) hr hc hv h1 hcode C hT hq B S hcl hdef hbind (fun _ _ h=>by cases h) (fun y e=>Ztn has y e) rfl (fun i j y h=>by simp at h) ha hb g1 he1 hp1
end
end DL
namespace TX
open PySem PySem.Spec PySem.Calls PyProof.Rows L2 DL
section
variable{prog:Program}{w:World}{A:Around}{E:Value→Shared→Prop}{s:Shared}{d:Addr}{od:Obj}{es:Array DictEntry}{ep:Nat}
theorem Zlm(hh:A.handled=none)(I:Addr)(hne:d≠I)(c:od.data= .dict es ep):Walks prog w A I [I,d] [I] es.size (fun i v=>∃e,es[i]? =some e∧v=e.key) (fun i h=>h.IsKeyIter I d i es.size ep∧h.get? d=some od)where
 sub:=fun b hb=>by simp at hb;simp[hb]
 frame:=fun _ _ _ st hk=>⟨Zf4 st.1 fun o e=>hk I (by simp) o e,hk d (by simp) _ st.2⟩
 item:=fun i s Q E hi st hQ=>by
  have he:es[i]? =some es[i]:=by simp[hi]
  refine Zm8 st.1 st.2 c rfl he fun h' t' hs'=>?_
  exact hQ _ h' s.toks ⟨_,he,rfl⟩ ⟨t',(hs'.2 d hne).trans st.2⟩ fun b o hb e=>(hs'.2 b (fun h=>hb (by simp[h]))).trans e
 done:=fun s Q E st hQ=>Zm9 hh st.1 st.2 c rfl (Nat.le_refl _) fun h' he'=>hQ h' s.toks fun b o hb e=>he' b o (fun h=>hb (by simp[h])) e
 self:=fun _ _ _ _ st hQ=>wpAny_pyIter_keyiter st.1 hQ
theorem Zp8(lo:(d==sysModules)=false)(x:od.ExactDict)(c:od.data= .dict es ep):PySem.W.KdlSrc prog w "dict" d d es.size (fun i v=>∃e,es[i]? =some e∧v=e.key) (fun h=>h.get? d=some od)where
 type:=fun _ g=>⟨od,g,x.1⟩
 there:=fun _ g=>⟨Heap.lt_size g,Heap.lt_size g⟩
 keep:=fun _ _ g hk=>hk d (.inl rfl) _ g
 notList:=by decide
 notTuple:=by decide
 hint:=fun _ _ _ _ g hq=>PySem.W.kdl_hint_dict ⟨od,g,x.1⟩ hq
 iter:=fun _ _ hh g=>⟨_,_,(fun _ _ hq=>Zm7 lo g x c hq),Zlm hh _ (Nat.ne_of_lt (Heap.lt_size g)) c,⟨⟨_,Heap.get?_push_size _ rfl,rfl,rfl⟩,Heap.get?_push_of_some _ g⟩⟩
theorem Zhd{Q:List Value→Shared→Prop}(hh:A.handled=none)(lo:(d==sysModules)=false)(x:od.ExactDict)(c:od.data= .dict es ep)(g:s.heap.get? d=some od)(hn:es.size≤1000)
  (h:∀h' tk,(∀b o,s.heap.get? b=some o→h'.get? b=some o)→s.heap.objs.size≤h'.objs.size→Q (es.toList.map (·.key)) {s with heap:=h',toks:=tk}):wpAny (model prog w) A (collect (.ref d)) Q E s:=by
 have hlr:d<s.heap.objs.size:=Heap.lt_size g
 have nS:s.heap.objs.size≠d:=Nat.ne_of_gt hlr
 unfold collect
 refine wpAny_bind (wpAny_runValue (codeAny_builtin PySem.F.entry_proto_collect ?_))
 rw[Around.under_plainId PySem.F.plain_proto_collect _]
 show wpAny _ A.in1 (newList [] >>=fun l=>again (.builtin "list.__iadd__" ⟨[l,.ref d],[]⟩)) _ _ s
 refine wpAny_bind (wpAny_newObj_type ?_)
 refine wpAny_pure ⟨plainId_quiet PySem.F.plain_list_iadd _,codeAny_builtin PySem.F.entry_list_iadd ?_⟩
 rw[Around.under_plainId PySem.F.plain_list_iadd _]
 show wpAny _ A.in1 (Builtin.List.listExtendWith (.ref s.heap.objs.size) (.ref d) (.ref s.heap.objs.size)) _ _ _
 refine PySem.W.kdl_extend (R:=fun rr s'=>match rr with
  | .ok (.ret v)=>wpAny (model prog w) A (match v with
   | .ref a=>(load a >>=fun x=>match x.data with
    | .seq xs _=>pure xs.toList
    |_=>unsupported "internal:collect")
   |_=>unsupported "internal:collect") Q E s'
  | .ok _=>False
  | .error e=>E e s') (s:={s with heap:=s.heap.push {cls:=.type "list",data:=.seq #[] 0}}) (Zp8 (prog:=prog) (w:=w) lo x c) hh (Heap.get?_push_of_some _ g) s.heap.objs.size nS nS _ 0 (Heap.get?_push_size _ rfl) (fun h' tk acc' c' hk gS hacc=>?_) (by rw[sizeLine_eq];omega)
 show wpAny _ A (load s.heap.objs.size >>=_) _ _ _
 refine wpAny_bind (wpAny_load gS ?_)
 refine wpAny_pure ?_
 have e:acc'.toList=es.toList.map (·.key):=by
  apply List.ext_getElem?
  intro i
  rw[Array.getElem?_toList,List.getElem?_map,Array.getElem?_toList]
  cases hi:acc'[i]? with
  |none=>
   have:acc'.size≤i:=by simpa using hi
   rw[hacc.1]at this
   rw[show es[i]? =none by simpa using this];rfl
  |some v=>
   obtain⟨e,he,rfl⟩:=hacc.2 i v hi
   rw[he];rfl
 show Q acc'.toList _
 rw[e]
 exact h h' tk (fun b o q=>hk b o (Nat.ne_of_lt (Heap.lt_size q)) (Heap.get?_push_of_some _ q)) (Nat.le_of_lt (Heap.lt_size gS))
end
end TX
namespace TX
open PySem PySem.Spec PySem.Calls PyProof.Rows L2 DL
open PySem.W (kas_sort kas_ask kas_item kat_run kat_snds)
section
variable{X:Cx}{pins:List (Addr×Obj)}{σ:L2.St}{H:Hp}{s:Shared}{E:Value→Shared→Prop}{its:List Value}{KeyOk:Nat→V→Hp→Prop}{Q:Value→Shared→Prop}{O:KeyOrd}{key:Nat→O.α}{kvs:List V}
theorem Zln(I:Inv X pins σ H s)(h64:its.length<64)(rv:Vals kvs its)(hk:∀j kv,kvs[j]? =some kv→KeyOk j kv H)(hc:Cmp X pins σ H X.A.in1.in1 KeyOk O key its.length)
  (hQ:∀p D s' c,Pm its.length p→Srt key p its.length→X.s₀.heap.get? D=none→Inv X pins σ H s'→FpOk X pins H D→s'.heap.get? D=some (seqObj "list" (List.toArray (p.toList.map fun i=>its.getD i Value.none)) c)→Q (.ref D) s'):
  wpAny (model X.prog X.w) X.A.in1 (do
   let l←newList its
   let _←holding [l] (call (.builtin "list.sort") [l] [])
   ret l) (fun fin s'=>∃v,fin= .done (.ret v)∧Q v s') E s:=by
 refine wpAny_bind (wpAny_newList ?_ (by rw[sizeLine_eq];omega))
 have hoL:(s.heap.push (seqObj "list" its.toArray 0)).get? s.heap.objs.size=some (seqObj "list" its.toArray 0):=Heap.get?_push_size _ rfl
 have keep:∀b o,s.heap.get? b=some o→(s.heap.push (seqObj "list" its.toArray 0)).get? b=some o:=fun b o q=>Heap.get?_push_of_some _ q
 refine wpAny_bind (wpAny_holding (wpAny_call_entry (s:={s with heap:=s.heap.push (seqObj "list" its.toArray 0)}) slot_list_sort ⟨_,hoL,rfl⟩ entry_list_sort ?body (args_list_sort _)))
 case body=>
  rw[list_sort_plain]
  have hs2:(s.heap.push (seqObj "list" its.toArray 0)).objs.size=s.heap.objs.size+1:=size_push' ..
  generalize hh:(s.heap.push (seqObj "list" its.toArray 0))=h1 at hoL keep hs2⊢
  generalize hD:s.heap.objs.size=D at hoL⊢
  have hDn: @Eq Nat D s.heap.objs.size:=hD.symm
  obtain⟨e1,ho1⟩:∃e1,(h1.update D (Obj.mapSeq fun _=>(#[]:Array Value))).get? D=some (seqObj "list" #[] e1):=⟨_,get?_update_seq hoL fun _=> #[]⟩
  refine wpAny_bind (listItems_at hoL rfl ?_)
  refine wpAny_bind (listUpdate_at hoL rfl ?_ (by rw[List.size_toArray,sizeLine_eq];omega) (Nat.zero_le _))
  refine wpAny_bind (seqEpoch_at ho1 rfl ?_)
  refine wpAny_bind (wpAny_newTuple ?_ (by show its.length≤_;rw[sizeLine_eq];omega))
  refine wpAny_bind (wpAny_newList ?_ (Nat.zero_le _))
  refine wpAny_holding ?_
  have kp:∀b o,s.heap.get? b=some o→(((h1.update D (Obj.mapSeq fun _=>(#[]:Array Value))).push (seqObj "tuple" its.toArray 0)).push (seqObj "list" #[] 0)).get? b=some o:=fun b o q=>by
   have hlt: @LT.lt Nat _ b s.heap.objs.size:=Heap.lt_size q
   have:=keep b o q
   refine Heap.get?_push_of_some _ (Heap.get?_push_of_some _ ?_)
   rw[Heap.get?_update_ne _ _ _ _ (Nat.ne_of_lt (show @LT.lt Nat _ b D by omega))]
   exact this
  have nD:H D=none:=I.hok.fresh (by omega)
  have fD:FpOk X pins H D:=I.fpOk (by omega) nD
  have ho6:(((h1.update D (Obj.mapSeq fun _=>(#[]:Array Value))).push (seqObj "tuple" its.toArray 0)).push (seqObj "list" #[] 0)).get? D=some (seqObj "list" #[] e1):=Heap.get?_push_of_some _ (Heap.get?_push_of_some _ ho1)
  have I6:Inv X pins σ H {s with heap:=((h1.update D (Obj.mapSeq fun _=>(#[]:Array Value))).push (seqObj "tuple" its.toArray 0)).push (seqObj "list" #[] 0)}:=I.kept kp
  show wpAny (model X.prog X.w) X.A.in1.in1 _ _ _ {s with heap:=((h1.update D (Obj.mapSeq fun _=>(#[]:Array Value))).push (seqObj "tuple" its.toArray 0)).push (seqObj "list" #[] 0)}
  have hD0:X.s₀.heap.get? D=none:=Heap.get?_none_of_le (Nat.le_trans I.sz (by omega))
  generalize hs6:({s with heap:=((h1.update D (Obj.mapSeq fun _=>(#[]:Array Value))).push (seqObj "tuple" its.toArray 0)).push (seqObj "list" #[] 0)}:Shared)=s6 at I6⊢
  have ho6:s6.heap.get? D=some (seqObj "list" #[] e1):=by rw[←hs6];exact ho6
  have fin:∀(p:Array Nat) (out:Array Value),out=List.toArray (p.toList.map fun i=>its.getD i Value.none)→out.size<64→Pm its.length p→Srt key p its.length→
    Q (.ref D) {s6 with heap:=s6.heap.update D (Obj.mapSeq fun _=>out)}:=fun p out ho hz z1 z2=>by
   subst ho
   exact hQ p D _ _ z1 z2 hD0 (Zet (o:=seqObj "list" #[] 0) (xs:= #[]) (ys:= #[]) (n:=0) I6 fD) fD (get?_update_seq ho6 fun _=>_)
  try dsimp only
  by_cases h2:its.toArray.size<2
  ·rw[if_pos h2,if_pos h2]
   have h2':its.length<2:=by simpa using h2
   refine wpAny_bind (wpAny_pure ?_)
   rw[StateT.run_pure]
   refine wpAny_bind (wpAny_pure ?_)
   try dsimp only
   have eo:(arrOf (SortSt.mk' general' (its.toArray.zip its.toArray) #[] 7 none)).map (·.2)=List.toArray ((List.toArray (List.range its.length)).toList.map fun i=>its.getD i Value.none):=by
    show(its.toArray.zip its.toArray).map (·.2)=_
    apply Array.toList_inj.mp
    rw[Array.toList_map,ksk_zip]
    simp only[List.toList_toArray]
    rw[List.map_snd_zip (by omega)]
    apply List.ext_getElem
    ·simp
    ·intro i a b;simp[a]
   rw[eo]
   refine wpAny_bind (seqEpoch_at ho6 rfl ?_)
   refine wpAny_bind (listUpdate_at ho6 rfl ?_ (Nat.zero_le _) (by rw[List.size_toArray,sizeLine_eq];simp;omega))
   show wpAny _ _ (if((e1 !=e1)=true)then _ else _) _ _ _
   simp only[bne_self_eq_false,Bool.false_eq_true,if_false]
   refine wpAny_pure ⟨_,rfl,wpAny_pure ⟨_,rfl,fin (List.toArray (List.range its.length)) _ rfl (by simp;omega) (Array.Perm.refl _) (fun i j hij hj=>?_)⟩⟩
   have:i=j:=by omega
   subst this
   exact KeyOrd.kle_refl _
  ·rw[if_neg h2,if_neg h2]
   have h2':2≤its.length:=Nat.le_of_not_lt (by simpa using h2)
   obtain⟨κ,hκ,hlt⟩:=hc H s6 its kvs (Same.refl H) I6 rv rfl hk h2'
   refine wpAny_bind (wpAny_mono (hκ (fun κ' s'=>κ'=κ∧s'=s6) ⟨rfl,rfl⟩) (fun κ' s' z=>?_) fun _ _ z=>z.elim)
   obtain⟨rfl,rfl⟩:=z
   have g:=Good.wp (lt:=ltOf O key) (n:=its.length) (R:=fun q=>Pm its.length q∧Srt key q its.length) (cmp:=kas_ask X.prog X.w X.A.in1.in1 κ' its) (I:=fun s''=>s''=s') (Q:=fun q s''=>s''=s'∧Pm its.length q∧Srt key q its.length)
    (fun i j C s'' hi hj z hC=>by subst z;exact hlt i j C hi hj (hC _ rfl)) (fun q s'' z1 z2=>⟨z2,z1⟩) (Zga (key:=key) (by omega)) rfl
   refine wpAny_bind (wpAny_mono (kat_run (Q:=fun st s''=>∃p:Array Nat,s''=s'∧Pm its.length p∧Srt key p its.length∧arrOf st=p.map (kas_item (its.toArray.zip its.toArray))∧failedOf st=none) rfl h2' h64
    (fun p st s'' _ a1 a2 z=>⟨p,z.1,z.2.1,z.2.2,a1,a2⟩) g) (fun r s'' z=>?_) fun _ _ z=>z)
   obtain⟨⟨⟩,st⟩:=r
   obtain⟨p,rfl,z1,z2,z3,z4⟩:=z
   try dsimp only
   rw[kat_snds rfl z3]
   refine wpAny_bind (seqEpoch_at ho6 rfl ?_)
   refine wpAny_bind (listUpdate_at ho6 rfl ?_ (Nat.zero_le _) (by rw[List.size_toArray,List.length_map,Array.length_toList,z1.size,sizeLine_eq];omega))
   rw[z4]
   simp only[bne_self_eq_false,Bool.false_eq_true,if_false]
   exact wpAny_pure ⟨_,rfl,wpAny_pure ⟨_,rfl,fin p _ rfl (by rw[List.size_toArray,List.length_map,Array.length_toList,z1.size];exact h64) z1 z2⟩⟩
end
end TX
namespace L2
open PySem PySem.Spec PySem.Calls PyProof.Rows DL TX
section
variable{X:Cx}
noncomputable def Zts(K:PySem.W.Frag):List V→Hp→VK→Prop:=fun vs H Q=>∃a kvs ep bs F ds p,vs=[.ref a]∧Same F H∧H a=some (.dT kvs ep bs)∧Reps K F ds (bs.map V.ref)∧KeysOk ds∧Zge ds p∧bs.length<64∧∀q,H q=none→Q (.ref q) (upd H q (.lst (p.map fun i=>(bs.map V.ref).getD i .non)))
theorem Zdm:∀bs:List Addr,Vals (bs.map V.ref) (bs.map Value.ref)
 | []=>.nil
 |b::bs=>.cons rfl (Zdm bs)
theorem Zi9(hc:X.calm=true)(hu:X.A.units+64<cLine):Zbv X (.builtin "sorted") (Zts X.K):=by
 intro pins s σ H xs us Q I r h
 obtain⟨a,kvs,ep,bs,F,ds,p0,rfl,le,ha,rr,ko,hp0,hz,q⟩:=h
 obtain⟨u,rfl,ru⟩:=Zdt r
 cases ru
 obtain⟨_,hd,ys,rel,od,es,g,x,c,en,nd,hbs⟩:=(show Zan X.prog X.w H s.heap a (.dT kvs ep bs)from I.hok a _ ha)
 have ek:es.toList.map (·.key)=bs.map Value.ref:=by
  rw[en,←hbs,List.map_map,List.map_map]
  rfl
 have hes:es.size=bs.length:=by rw[←Array.length_toList,←List.length_map (f:=fun e:DictEntry=>e.key),ek,List.length_map]
 have hlen:ds.length=bs.length:=by have:=TX.Reps.len2 rr;rw[List.length_map]at this;exact this
 obtain⟨enc,he,hdis⟩:=id ko.ord
 obtain⟨kb,hkb⟩:=id ko.key
 have hu2:X.A.in1.in1.units+16<cLine:=by show X.A.units+1+1+16<cLine;omega
 refine Calls.call_function_entry kind_sorted plain_sorted entry_sorted (args_sorted1 _) ?_
 unfold Builtin.«sorted»
 refine wpAny_bind (m:=checkCount "sorted" 1 1 _) (wpAny_pure ?_)
 refine wpAny_bind (Zhd (A:=X.A.in1) (I.ok.hd hc) hd x c g (by omega) fun h' tk hk ge=>?_)
 rw[ek]
 have I1:Inv X pins σ H {s with heap:=h',toks:=tk}:=I.kept hk
 have bl:(bs.map Value.ref).length=bs.length:=List.length_map ..
 refine Zln (its:=bs.map Value.ref) (kvs:=bs.map V.ref) (KeyOk:=fun j kv H=>Rep X.K H (ds.getD j .non) kv) (O:=strKind.toKeyOrd) (key:=Znf enc ds) I1 (by rw[bl];exact hz) (Zdm bs) (fun j kv e=>?_) (Zoe hu2 hkb he (by rw[bl];exact hlen)) ?hQ
 ·have hj:j<(bs.map V.ref).length:=(List.getElem?_eq_some_iff.mp e).1
  rw[List.length_map]at hj
  have h1:=Zcp rr j (by omega)
  have:(bs.map V.ref).getD j .non=kv:=by rw[List.getD_eq_getElem?_getD,e];rfl
  rw[this]at h1
  exact h1.mono le
 case hQ=>
  intro p D s3 cc hp hs hD0 I3 fD gD
  rw[bl]at hp hs
  have ep:p.toList=p0:=Zea ko (Zof he hlen hp hs) hp0
  rw[ep]at gD
  have bnd:∀i∈p0,i<bs.length:=fun i hi=>by have:=List.mem_range.mp (hp0.1.mem_iff.mp hi);omega
  have new:Zan X.prog X.w (upd H D (.lst (p0.map fun i=>(bs.map V.ref).getD i .non))) s3.heap D (.lst (p0.map fun i=>(bs.map V.ref).getD i .non)):=by
   refine⟨?_,p0.map fun i=>(bs.map Value.ref).getD i Value.none,cc,Zgf (Zdm bs) (fun i hi=>by rw[bl];exact bnd i hi),gD⟩
   have:=hp0.1.length_eq
   rw[List.length_range]at this
   rw[List.length_map,this,sizeLine_eq]
   omega
  exact⟨.ref D,_,Inv.trackO I3 hD0 fD.1 fD.2.1 fD.2.2.2.2.1 fD.2.2.2.2.2 new,rfl,q D fD.1⟩
end
end L2
namespace DL
open PySem PySem.Spec PySem.Calls PyProof.Rows L2 TX
section
variable{K:PySem.W.Frag}{F H:Hp}{v:V}
theorem RepN.dT2{ks:List (List Key)}{ds:List D}(le:Same F H)(h:RepN K F H (.dT ks ds) v):∃a kvs ep bs,v= .ref a∧H a=some (.dT kvs ep bs)∧KB F kvs bs∧kvs.map (·.1)=ks:=by
 obtain⟨sv,ns,e,n,sh,hp⟩:=h
 cases sh with
 |fz r=>cases e;cases r with|dT h kb e r=>exact⟨_,_,_,_,rfl,le _ _ h,kb,e⟩
 |ol r=>cases e
 |oK e' r=>cases e
 |oT kb e' r=>cases e;exact⟨_,_,_,_,rfl,hp _ List.mem_cons_self,kb,e'⟩
 |oN e' r=>cases e
 |oL hp' r=>cases e
 |oQ e' r=>cases e
noncomputable abbrev Zgg(k:List Key):D:=.tup (k.map keyD)
theorem Zlo:∀{kvs:List (List Key×V)} {bs:List Addr},KB F kvs bs→Reps K F ((kvs.map (·.1)).map Zgg) (bs.map V.ref)
 |_,_,.nil=>.nil
 |_,_,.cons h t=>.cons (.tup h (Zf5 _)) (Zlo t)
theorem Ztt{kvs:List (List Key×V)}{bs:List Addr}(h:KB F kvs bs):kvs.length=bs.length:=Paired.length h
noncomputable def Zlp:List D→Option SV
 | [.dT ks _]=>srtK (ks.map Zgg) (ks.map Zgg)
 |_=>none
variable{Z:Ent K}{σ:L2.St}{Q:VK}{E:Ends}
theorem Ztu:Zdv Z (Zts K) Zlp:=by
 intro F H σ δ own vs ds sv Q s r e k
 unfold Zlp at e
 split at e
 ·rename_i ks us
  obtain⟨_,hz,ko,p,hp,rfl⟩:=Zle e
  cases r with
  |cons h t=>
   cases t
   obtain⟨a,kvs,ep,bs,rfl,ha,kb,rfl⟩:=RepN.dT2 s.le h
   have rr:Reps K F ((kvs.map (·.1)).map Zgg) (bs.map V.ref):=Zlo kb
   have bnd:∀i∈p,i<((kvs.map (·.1)).map Zgg).length:=fun i hi=>List.mem_range.mp (hp.1.mem_iff.mp hi)
   exact⟨a,kvs,ep,bs,F,_,p,rfl,s.le,ha,rr,ko,hp,by rw[←Ztt kb];simpa using hz,fun q hq=>k.lst s (Zdl rr bnd) hq⟩
 ·cases e
end
section
variable{X:Cx}{Z:Ent X.K}{a b c:Expr}{fa fb fc:FE}{pos:Pos}
theorem Ztv{p:Pos}(hc:X.calm=true)(hv:X.A.units+64<cLine)(hm:X.mg "sorted"=none)(ha:PE X a (Zb Z fa))(hg:Gl X "sorted":=by rfl)(he:starEach [a] X.env=(false,eval a X.env)::starEach [] X.env:=by rfl)(hpl:(backTo pos (starEach [] X.env)).any (·.1)=false:=by rfl):
  PE X (.Call (.Name "sorted" p) [a] [] pos) (Zb Z (Zaw Zlp (Za fa Zk))):=Zg4 (Zi9 hc hv) Ztu hm L2.Zdk (Zi ha Zag he) hg (by decide) (by decide) he hpl
end
end DL
namespace L2
open PySem PySem.Spec PyProof.Rows
variable{X:Cx}{pos:Pos}
noncomputable def gLst(K:PySem.W.Frag)(n:Nat)(t:TGs):TG:=fun v σ H Q=>∃a xs,v= .ref a∧SqL K H a xs∧xs.length=n∧t xs σ H Q
theorem Ztw{es:List Expr}{k:Nat}{t:TGs}{n:Nat}(hc:X.calm=true)(h:PGs X es t)
  (hn:(assignEach es X.env).length=n:=by rfl) (hst:(assignEach es X.env).findIdx? (·.1)=none:=by rfl):PG X (.Tuple es k pos) (gLst X.K n t):=by
 intro pins s σ H v u Q I r hw
 obtain⟨a,xs,e1,hq,hl,hw⟩:=hw
 subst e1
 cases r
 obtain⟨its,rv,pl,hz⟩:=I.list hq
 rw[assign_Tuple]
 refine wpAny_bind (wpAny_standAt ?_)
 unfold unpack
 rw[hst,show(assignEach es X.env).length=its.toArray.size by simp[hn,←hl,rv.length]]
 refine wpAny_bind (wpAny_holding (PySem.W.kun_itemsOf (I.ok.hd hc) pl.isList fun h' hx=>?_))
 have I1:Inv X pins σ H {s with heap:=h'}:=I.kept (t':=s.toks) fun b o e=>hx b o (Nat.ne_of_lt (Heap.lt_size e)) e
 exact h pins _ σ H xs _ Q I1 (by simpa using rv) hw
end L2
namespace DL
open PySem PySem.Spec PyProof.Rows L2
variable{K:PySem.W.Frag}{Z:Ent K}{H:Hp}{σ:L2.St}
noncomputable def Zlq(n:Nat)(g:FGs):FG:=⟨fun d δ=>match d with
 | .lst xs=>if xs.length=n then g.run xs δ else none
 |_=>none,g.tch⟩
@[simp] theorem Zus(n:Nat)(g:FGs)(xs:List D)(δ:DSt):(Zlq n g).run (.lst xs) δ=if xs.length=n then g.run xs δ else none:=rfl
theorem Ztx{n:Nat}{g:FGs}{v:V}{Q:L2.St→Hp→Prop}(h:Zb7 Z (Zlq n g) v σ H Q):gLst K n (Zbs Z g) v σ H Q:=by
 obtain⟨F,δ,own,d,δ',s,r,e,k⟩:=h
 dsimp only[Zlq]at e
 split at e
 ·rename_i xs
  by_cases hn:xs.length=n
  ·rw[if_pos hn]at e
   cases r with
   |lst h r=>exact⟨_,_,rfl,Zab s.le h,by rw[←r.length];exact hn,F,δ,own,_,δ',s,r,e,k⟩
  ·rw[if_neg hn]at e;cases e
 ·cases e
variable{X:Cx}{Z:Ent X.K}{pos:Pos}
theorem Zw4{es:List Expr}{k n:Nat}{g:FGs}(hc:X.calm=true)(h:PGs X es (Zbs Z g))(hn:(assignEach es X.env).length=n:=by rfl)(hst:(assignEach es X.env).findIdx? (·.1)=none:=by rfl):PG X (.Tuple es k pos) (Zb7 Z (Zlq n g)):=(Ztw hc h hn hst).imp fun _ _ _ _ h=>Ztx h
end DL
namespace My
open DL PySem
theorem Zai{n:Nat}(h:n≤16777216):n≤PySem.sizeLine:=h
theorem Zbz{n:Nat}(h:n<16777216):n<PySem.sizeLine:=h
noncomputable abbrev LET:Str:="ABCDEFGHIJKLMNOPQRSTUVWXYZabcdefghijklmnopqrstuvwxyz"
theorem Zw5(c:Nat):(⟨#[c]⟩:Str).length=1:=rfl
noncomputable def cat:List Str→Str
 | []=>""
 |x::r=>x++cat r
theorem Zew{te:FE}{f:D→D}{c:Option SV}{j:Nat}:∀(xs ys:List D),(∀x∈xs,∀zs,te [some (.fz x),c,some (.ol zs)]=some (.tmp (.fz (f x)),[some (.fz x),c,some (.ol zs)]))→ys.length+xs.length≤16777216→
  Zbb [.own,.cap j,.acc] 2 (Zm 0) Zg0 te xs [none,c,some (.ol ys)]=some [none,c,some (.ol (ys++xs.map f))]
 | [],ys,_,_=>by simp
 |x::xs,ys,h,hl=>by
  rw[List.length_cons]at hl
  have ih:=Zew (te:=te) (f:=f) (c:=c) (j:=j) xs (ys++[f x]) (fun y hy=>h y (List.mem_cons_of_mem _ hy)) (by rw[List.length_append];simp;omega)
  have e1:=h x List.mem_cons_self ys
  have h4:ys.length<PySem.sizeLine:=Zbz (by omega)
  simp[e1,h4]
  simpa using ih
theorem Zcq{f:D→D→Option Bool}:∀xs:List D,(∀x∈xs,f x x=some true)→Zdh f xs xs=some true
 | [],_=>rfl
 |x::r,h=>by simp[h x List.mem_cons_self,Zcq r fun y hy=>h y (List.mem_cons_of_mem _ hy)]
end My
namespace My
open DL PySem StrLaws Builtin.Str
noncomputable def gap(n:Nat):Nat→List Nat→Prop
 |_,[]=>True
 |a,p::r=>a≤p∧gap n (p+n) r
noncomputable def jl(y:List Nat):List (List Nat)→List Nat
 | []=>[]
 | [p]=>p
 |p::q::r=>p++y++jl y (q::r)
noncomputable def pos(n:Nat):Nat→List (List Nat)→List Nat
 |_,[]=>[]
 |_,[_]=>[]
 |a,p::q::r=>(a+p.length)::pos n (a+p.length+n) (q::r)
structure Sep(y:Str)(c o:Nat):Prop where
 at':y.cps.toList[o]? =some c
 one:∀j,y.cps.toList[j]? =some c→j=o
end My
namespace My
open DL PySem
theorem Zbc{tg:FG}{body:FS}{d:D}{ds:List D}{δ δ1 δ2:DSt}(h1:tg.run d δ=some δ1)(h2:body δ1=some (.nx δ2)):forD tg body (d::ds) δ=forD tg body ds δ2:=by
 show(tg.run d δ).bind _=_
 rw[h1,Option.bind_some,h2,Option.bind_some]
theorem Zp9{tg:FG}{body:FS}{d:D}{ds:List D}{δ δ1:DSt}{sv:SV}(h1:tg.run d δ=some δ1)(h2:body δ1=some (.rt sv)):forD tg body (d::ds) δ=some (.rt sv):=by
 show(tg.run d δ).bind _=_
 rw[h1,Option.bind_some,h2,Option.bind_some]
theorem Zlr{t:FT}{b:FS}{n:Nat}{δ δ1 δ2:DSt}(h1:t δ=some (true,δ1))(h2:b δ1=some (.nx δ2)):Zbh t b (n+1) δ=Zbh t b n δ2:=by
 show(t δ).bind _=_
 rw[h1,Option.bind_some]
 show(if true=true then(b δ1).bind _ else _)=_
 rw[if_pos rfl,h2,Option.bind_some]
theorem Zeb{t:FT}{b:FS}{n:Nat}{δ δ1:DSt}(h1:t δ=some (false,δ1)):Zbh t b (n+1) δ=some (.nx δ1):=by
 show(t δ).bind _=_
 rw[h1,Option.bind_some]
 rfl
noncomputable abbrev S(l:List Nat):Str:=⟨l.toArray⟩
theorem Zty(l:List Nat):(S l).length=l.length:=by show l.toArray.size=_;simp
theorem Zw6(a b:List Nat):S a++S b=S (a++b):=by
 show(⟨a.toArray++b.toArray⟩:Str)=⟨(a++b).toArray⟩
 simp
theorem Zw7{a b:List Nat}(h:S a=S b):a=b:=by
 have:a.toArray=b.toArray:=congrArg Str.cps h
 simpa using this
theorem S_of(x:Str):x=S x.cps.toList:=by cases x;simp
theorem Ztz(l:List Nat):(S l).cps.toList=l:=by simp
theorem Zig{α:Type}(p:List α)(i:Nat)(c:α)(h:p[i]? =some c):L2.atI p (i:Int)=some c:=by
 have hl:=(List.getElem?_eq_some_iff.mp h).1
 unfold L2.atI L2.ixN
 rw[if_pos (by omega),if_pos (by omega)]
 simpa using h
section
variable{κ:Type}[DecidableEq κ]
theorem Zih(k k':κ)(v:D):∀(ks:List κ) (vs:List D),k∈ks→ks.length=vs.length→look ks ((ks.zip vs).map fun p=>if p.1=k then v else p.2) k'=if k=k' then some v else look ks vs k'
 |a::ks,u::vs,hk,hl=>by
  rw[List.zip_cons_cons,List.map_cons]
  show(if a=k' then some (if a=k then v else u)else look ks ((ks.zip vs).map fun p=>if p.1=k then v else p.2) k')=if k=k' then some v else(if a=k' then some u else look ks vs k')
  by_cases ha:a=k'
  ·subst ha
   rw[if_pos rfl,if_pos rfl]
   by_cases hk2:a=k
   ·subst hk2;rw[if_pos rfl,if_pos rfl]
   ·rw[if_neg hk2,if_neg fun e=>hk2 e.symm]
  ·rw[if_neg ha,if_neg ha]
   by_cases hm:k∈ks
   ·exact Zih k k' v ks vs hm (by simpa using hl)
   ·have hak:k=a:=by
     rcases List.mem_cons.mp hk with e|e
     ·exact e
     ·exact absurd e hm
    rw[if_neg fun e=>ha (hak.symm.trans e)]
    have:((ks.zip vs).map fun p=>if p.1=k then v else p.2)=vs:=by
     have hl':ks.length=vs.length:=by simpa using hl
     clear hk hl ha
     induction ks generalizing vs with
     |nil=>cases vs with
      |nil=>rfl
      |cons _ _=>simp at hl'
     |cons b ks ih=>cases vs with
      |nil=>simp at hl'
      |cons w vs=>
       rw[List.zip_cons_cons,List.map_cons,if_neg fun e=>hm (by rw[←e];exact List.mem_cons_self),ih vs (fun h=>hm (List.mem_cons_of_mem _ h)) (by simpa using hl')]
    rw[this]
 | [],_,hk,_=>nomatch hk
theorem Zgh(k k':κ)(v:D):∀(ks:List κ) (vs:List D),k∉ks→ks.length=vs.length→look (ks++[k]) (vs++[v]) k'=if k=k' then some v else look ks vs k'
 | [],[],_,_=>by show(if k=k' then some v else none)=_;rfl
 |a::ks,u::vs,hk,hl=>by
  show(if a=k' then some u else look (ks++[k]) (vs++[v]) k')=if k=k' then some v else(if a=k' then some u else look ks vs k')
  by_cases ha:a=k'
  ·rw[if_pos ha,if_pos ha,if_neg fun e=>hk (by rw[e,←ha];exact List.mem_cons_self)]
  ·rw[if_neg ha,if_neg ha]
   exact Zgh k k' v ks vs (fun h=>hk (List.mem_cons_of_mem _ h)) (by simpa using hl)
theorem Zni(k k':κ)(v:D)(ks:List κ)(vs:List D)(hl:ks.length=vs.length):look (putA ks vs k v).1 (putA ks vs k v).2 k'=if k=k' then some v else look ks vs k':=by
 unfold putA
 split
 ·rename_i h;exact Zih k k' v ks vs h hl
 ·rename_i h;exact Zgh k k' v ks vs h hl
theorem Zqa(k:κ)(v:D)(ks:List κ)(vs:List D)(hl:ks.length=vs.length):(putA ks vs k v).1.length=(putA ks vs k v).2.length∧(putA ks vs k v).2.length≤vs.length+1:=by
 unfold putA
 split
 ·simp[hl]
 ·simp[hl]
end
end My
namespace My
open DL PySem
noncomputable abbrev nats(s n:Nat):List D:=(List.range' s n).map fun i:Nat=>D.int (i:Int)
theorem Zgi(n:Nat):Zfm 0 n=nats 0 n:=by
 unfold Zfm
 rw[List.range_eq_range']
 refine List.map_congr_left fun i _=>?_
 simp
theorem Zdn{tg:FG}{body:FS}{P:Nat→DSt→Prop}:∀(n s:Nat) (δ:DSt),P s δ→(∀i,s≤i→i<s+n→∀δ,P i δ→∃δ1 δ2,tg.run (.int (i:Int)) δ=some δ1∧body δ1=some (.nx δ2)∧P (i+1) δ2)→
  ∃δ',forD tg body (nats s n) δ=some (.nx δ')∧P (s+n) δ'
 |0,s,δ,h,_=>⟨δ,rfl,h⟩
 |n+1,s,δ,h,k=>by
  obtain⟨δ1,δ2,h1,h2,h3⟩:=k s (Nat.le_refl _) (by omega) δ h
  obtain⟨δ',e,h'⟩:=Zdn (tg:=tg) (body:=body) (P:=P) n (s+1) δ2 h3 fun i hi hj=>k i (by omega) (by omega)
  refine⟨δ',?_,by rw[show s+(n+1)=s+1+n by omega];exact h'⟩
  show forD tg body (.int (s:Int)::nats (s+1) n) δ=_
  rw[Zbc h1 h2];exact e
noncomputable def Zhe(i:Nat):List D→List D
 | []=>[]
 |x::r=>.tup [.int (i:Int),x]::Zhe (i+1) r
theorem Zt0(xs:List D):∀i:Nat,((xs.zipIdx i).map fun p:D×Nat=>D.tup [.int (p.2:Nat),p.1])=Zhe i xs:=by
 induction xs with
 |nil=>intro i;rfl
 |cons x r ih=>intro i;rw[List.zipIdx_cons,List.map_cons,ih];rfl
theorem Zdo(xs:List D):Zdd xs=Zhe 0 xs:=Zt0 xs 0
theorem Zhf{src:List L2.BSrc}{k:Nat}{g:FG}{tt:FT}{te:FE}{st:List D→DSt}{f:D→Option D}:∀(ds ys:List D),
  (∀d∈ds,∀(zs ds':List D),zs.length<PySem.sizeLine→Zbb src k g tt te (d::ds') (st zs)=Zbb src k g tt te ds' (st (zs++(f d).toList)))→ys.length+ds.length≤16777216→
  Zbb src k g tt te ds (st ys)=some (st (ys++ds.filterMap f))
 | [],ys,_,_=>by simp
 |d::ds,ys,h,hl=>by
  rw[List.length_cons]at hl
  rw[h d List.mem_cons_self ys ds (Zbz (by omega))]
  have hz:(f d).toList.length≤1:=by cases f d<;> simp
  rw[Zhf ds (ys++(f d).toList) (fun x hx=>h x (List.mem_cons_of_mem _ hx)) (by rw[List.length_append];omega),List.append_assoc]
  congr 3
  cases hd:f d with
  |none=>rw[List.filterMap_cons_none hd];rfl
  |some v=>rw[List.filterMap_cons_some hd];rfl
theorem Zhg(n:Nat)(xs:List D)(h:∀x∈xs,eqM n x x=some true):eqM (n+1) (.lst xs) (.lst xs)=some true:=by
 simp[Zcq xs h]
theorem Zhh(n:Nat)(xs:List D)(h:∀x∈xs,eqM n x x=some true):eqM (n+1) (.tup xs) (.tup xs)=some true:=by
 simp[Zcq xs h]
theorem Zhi(n:Nat)(x:Str):eqM (n+1) (.str x) (.str x)=some true:=by simp
theorem Zt1(xs:List D)(m:Nat)(h:m≤xs.length):cutD xs none (some (m:Int))=xs.take m:=by
 unfold cutD HT.sIx
 dsimp only
 rw[if_neg (by omega),List.drop_zero]
 congr 1
 omega
end My
namespace My
open DL PySem StrLaws Builtin.Str
end My
namespace My
open DL PySem
noncomputable abbrev inrs(xs:List Str):List L2.Key:=xs.map Sum.inr
structure Dic(xs:List Str)(vs:List D):Prop where
 nd:xs.Nodup
 len:xs.length=vs.length
end My
noncomputable section
local macro_rules| `(tactic|trivial)=> `(tactic|first|exact Or.inl rfl|exact Or.inr (Or.inl rfl)|exact Or.inr (Or.inr rfl)|exact Or.inr rfl)
namespace Gen
open PySem PySem.Spec PyProof.Rows L2 DL
noncomputable def top(i:Nat):Stmt:=PySem.Challenge.pw_citeward_k40_what_a_heap_tells.main.body.getD i (.Pass ⟨0,0,0,0⟩)
noncomputable abbrev FUEL:Nat:=1000
noncomputable abbrev Zbi:Stmt:=top 7
noncomputable abbrev Zbj:Stmt:=top 6
noncomputable abbrev Za3:Stmt:=top 5
noncomputable abbrev Zb0:Stmt:=top 8
noncomputable abbrev Za4:Stmt:=top 3
noncomputable abbrev Zex:Stmt:=top 2
noncomputable abbrev Zcr:Stmt:=top 9
noncomputable abbrev Zcs:Stmt:=top 1
noncomputable abbrev Zcg:Stmt:=top 10
noncomputable def Z4:FS:=
 seqF (setF 9 (binF mulZ (Zc 6) (Zaw intD (Za (binF eqY (Zc 8) (Zc 4)) Zk)))) (setF 7 (binF addD (Zc 7) (binF ixX (Zc 2) (binF modD (binF addD (binF Zi0 (Zc 0) (binF addD (Zc 8) (Zf (.int 2)))) (Zc 9)) (Zf (.int 22))))))
noncomputable def Zay:FS:=
 seqF (setF 7 (Zf (.str ""))) (seqF (forF (rngI (Za (Zc 3) Zk)) (Zm 8) Z4) (appF 5 (Zc 7)))
noncomputable def Zb1:FS:=
 seqF (setF 2 (Zf (.str "abcdefghjlmpqrstuvwxyz"))) (seqF (setF 3 (binF addD (Zf (.int 1)) (binF modD (Zc 0) (Zf (.int 8))))) (seqF (setF 4 (binF modD (binF Zi0 (Zc 0) (Zf (.int 8))) (Zc 3))) (seqF (setF 5 (lstF (Zp))) (seqF (forF (rngI (Za (Zc 1) Zk)) (Zm 6) Zay) (retF (Zc 5))))))
noncomputable def Zac:List D→Option SV:=Zcc Zb1 10
noncomputable def Zb2:FS:=
 retF (binF modD (binF mulZ (binF modD (Zc 0) (Zf (.int 2147483647))) (Zc 1)) (Zf (.int 2147483647)))
noncomputable def Zz:List D→Option SV:=Zcc Zb2 2
noncomputable def Zaz:FS:=
 seqF (ifS (Z9 (binF ltD (Zc 1) (Zaw lenD (Za (Zc 0) Zk)))) (retF (binF ixX (Zc 0) (Zc 1))) (Zei)) (retF (Zf (.int 0)))
noncomputable def Zn:List D→Option SV:=Zcc Zaz 2
noncomputable def Zav:FS:=
 ifS (Z9 (binF gtD (binF modD (binF Zi0 (Zc 7) (binF addD (Zf (.int 3)) (Zc 8))) (Zf (.int 5))) (Zf (.int 0)))) (seqF (setF 10 (binF ixX (lstF (Zk5 ["a b","A b","a","zz","10","9"] (Zp))) (binF modD (binF Zi0 (Zc 7) (binF addD (Zf (.int 11)) (binF mulZ (Zf (.int 6)) (Zc 8)))) (Zc 3)))) (putF 4 (tupF (Ze (Zc 9) (Ze (Zc 10) (Zp)))) (binF addD (bmDF "dict" Zh6 (Zc 4) (Ze (tupF (Ze (Zc 9) (Ze (Zc 10) (Zp)))) (Ze (lstF (Zp)) (Zp)))) (lstF (Ze (Zc 6) (Zp)))))) (Zei)
noncomputable def Za2:FS:=
 seqF (setF 7 (Zao 2 Zz (Za (binF addD (Zao 2 Zn (Za (Zc 2) (Za (binF addD (Zf (.int 5)) (Zc 5)) (Zk)))) (Zc 5)) (Za (Zf (.int 48271)) (Zk))))) (forF (Zf0 (Ze (Zc 1) Zp)) (Zb9 2 (Zw (Zm 8) (Zw (Zm 9) (Zb8)))) Zav)
noncomputable def Zbk:FE:=
 tupF (Ze (binF ixX (Zc 0) (Zf (.int 0))) (Ze (binF ixX (Zc 0) (Zf (.int 1))) (Ze (binF ixX (Zc 1) (Zc 0)) (Zp))))
noncomputable def Zct:FS:=
 seqF (setF 4 (Zm1)) (seqF (forF (Zf0 (Ze (Zc 0) Zp)) (Zb9 2 (Zw (Zm 5) (Zw (Zm 6) (Zb8)))) Za2) (retF (Zg1 [.own,.cap 4,.acc] 2 (anyI (Zaw Zlp (Za (Zc 4) Zk))) (Zm 0) (Zg0) Zbk)))
noncomputable def Za8:List D→Option SV:=Zcc Zct 11
noncomputable def Zaj:FT:=
 Z9 (binF eqY (binF ixX (Zc 0) (Zf (.int 0))) (Zc 1))
noncomputable def Zak:FE:=
 Zc 0
noncomputable def Zbd:FS:=
 seqF (setF 2 (Zg1 [.own,.cap 1,.acc] 2 (anyI (binF ixX (Zc 0) (Zf (.int 2)))) (Zm 0) (Zaj) Zak)) (retF (TX.minLF (Zc 2) [] (tupF (Ze (unF negD (Zaw lenD (Za (binF ixX (Zc 0) (Zf (.int 2))) Zk))) (Ze (binF ixX (Zc 0) (Zf (.int 1))) (Zp))))))
noncomputable def Zal:List D→Option SV:=Zcc Zbd 3
noncomputable def Zey:FS:=
 seqF (setF 2 (Zao 2 Zal (Za (Zc 0) (Za (Zc 1) (Zk))))) (retF (ifF (Z9 (binF isND (Zc 2) (Zf .non))) (Zf .non) (binF ixX (Zc 2) (Zf (.int 1)))))
noncomputable def Zcu:List D→Option SV:=Zcc Zey 3
noncomputable def Zar:FS:=
 ifS (andF (Z9 (binF eqY (Zc 4) (Zc 1))) (orF (Z9 (binF gtD (Zaw lenD (Za (Zc 6) Zk)) (Zc 3))) (andF (Z9 (binF eqY (Zaw lenD (Za (Zc 6) Zk)) (Zc 3))) (Z9 (binF ltS (Zc 5) (Zc 2)))))) (seqF (setF 2 (Zc 5)) (setF 3 (Zaw lenD (Za (Zc 6) Zk)))) (Zei)
noncomputable def Zdp:FS:=
 seqF (setF 2 (Zf .non)) (seqF (setF 3 (Zf (.int 0))) (seqF (forF (anyI (Zc 0)) (Zb9 3 (Zw (Zm 4) (Zw (Zm 5) (Zw (Zm 6) (Zb8))))) Zar) (retF (Zc 2))))
noncomputable def Zbl:List D→Option SV:=Zcc Zdp 7
noncomputable def Za1:FS:=
 ifS (Z9 (binF inP (Zc 1) (binF ixX (Zc 3) (Zf (.int 0))))) (retF (Zc 2)) (Zei)
noncomputable def Zch:FS:=
 seqF (forF (Zf0 (Ze (Zc 0) Zp)) (Zb9 2 (Zw (Zm 2) (Zw (Zm 3) (Zb8)))) Za1) (retF (Zf .non))
noncomputable def Z5:List D→Option SV:=Zcc Zch 4
noncomputable def Zhj:FE:=
 tupF (Ze (Zc 1) (Ze (Zc 0) (Zp)))
noncomputable def Zhk:FE:=
 tupF (Ze (Zc 0) (Ze (Zc 1) (Ze (Zaw Zki (Za (Zc 2) Zk)) (Zp))))
noncomputable def Zdq:FS:=
 seqF (setF 8 (Zao 2 Zcu (Za (Zc 6) (Za (Zc 7) (Zk))))) (seqF (setF 9 (Zao 2 Zbl (Za (Zc 5) (Za (Zc 7) (Zk))))) (ifS (orF (Z9 (binF neY (Zc 8) (Zc 9))) (andF (Z9 (binF Zi1 (Zc 9) (Zf .non))) (notF (Z9 (unF (isiD "str") (Zc 8)))))) (retF (Zf (.bl false))) (Zei)))
noncomputable def Zez:FS:=
 putF 11 (Zc 14) (Zaw lenD (Za (Zc 10) Zk))
noncomputable def Zdr:FT:=
 Z9 (binF ltD (Zc 12) (Zaw lenD (Za (Zc 3) Zk)))
noncomputable def Ze0:FS:=
 seqF (setF 13 (slF slD (Zc 3) (Zkg (Zc 12)) (Zkg (binF addD (binF addD (Zc 12) (Zf (.int 1))) (binF modD (Zao 2 Zz (Za (Zao 2 Zn (Za (Zc 0) (Za (binF addD (Zf (.int 5)) (Zc 12)) (Zk)))) (Za (Zf (.int 69621)) (Zk)))) (Zf (.int 2))))))) (seqF (forF (anyI (Zc 13)) (Zm 14) Zez) (seqF (setF 12 (binF addD (Zc 12) (Zaw lenD (Za (Zc 13) Zk)))) (appF 10 (tupF (Ze (Zc 13) (Ze (lstF (Zp)) (Ze (lstF (Zp)) (Zp))))))))
noncomputable def Ze1:FS:=
 seqF (setF 8 (Zao 2 Z5 (Za (Zc 10) (Za (Zc 14) (Zk))))) (ifS (orF (notF (Z9 (unF (isiD "int") (Zc 8)))) (orF (Z9 (unF (isiD "bool") (Zc 8))) (Z9 (binF neY (Zc 8) (binF ixX (Zc 11) (Zc 14)))))) (retF (Zf (.bl false))) (Zei))
noncomputable def Zqb:FS:=
 seqF (Zgy (Zlq 2 (Zw (Zm 1) (Zw (Zm 2) (Zb8)))) (Zao 2 Zac (Za (Zao 2 Zz (Za (Zao 2 Zn (Za (Zc 0) (Za (Zf (.int 0)) (Zk)))) (Za (Zf (.int 39373)) (Zk)))) (Za (Zf (.int 2)) (Zk))))) (seqF (setF 3 (Zao 2 Zac (Za (Zao 2 Zz (Za (Zao 2 Zn (Za (Zc 0) (Za (Zf (.int 1)) (Zk)))) (Za (Zf (.int 16807)) (Zk)))) (Za (binF addD (Zf (.int 1)) (binF modD (Zao 2 Zn (Za (Zc 0) (Za (Zf (.int 2)) (Zk)))) (Zf (.int 9)))) (Zk))))) (seqF (setF 3 (Zaw Zli (Za (Zg1 [.own,.cap 1,.acc] 2 (anyI (Zc 3)) (Zm 0) (Zg0) Zhj) Zk))) (seqF (setF 4 (Zao 2 Zac (Za (Zao 2 Zz (Za (Zao 2 Zn (Za (Zc 0) (Za (Zf (.int 3)) (Zk)))) (Za (Zf (.int 16807)) (Zk)))) (Za (Zf (.int 5)) (Zk))))) (seqF (setF 5 (Zao 4 Za8 (Za (Zc 3) (Za (slF slD (Zc 4) (Zkf) (Zkg (Zf (.int 4)))) (Za (Zc 0) (Za (binF addD (Zf (.int 2)) (binF modD (Zao 2 Zn (Za (Zc 0) (Za (Zf (.int 4)) (Zk)))) (Zf (.int 5)))) (Zk))))))) (seqF (setF 6 (tupF (Ze (Zaw Zki (Za (Zc 3) Zk)) (Ze (lstF (Zp)) (Ze (Zg1 [.own,.own,.own,.acc] 3 (anyI (Zc 5)) (Zb9 3 (Zw (Zm 0) (Zw (Zm 1) (Zw (Zm 2) (Zb8))))) (Zg0) Zhk) (Zp)))))) (seqF (forF (anyI (binF addD (Zc 4) (lstF (Ze (Zf (.str "in")) (Zp))))) (Zm 7) Zdq) (seqF (setF 10 (lstF (Zp))) (seqF (setF 11 (Zm1)) (seqF (setF 12 (Zf (.int 0))) (seqF (Zbh Zdr Ze0 FUEL) (seqF (forF (anyI (Zc 3)) (Zm 14) Ze1) (seqF (ifS (orF (Z9 (binF Zi1 (Zao 2 Z5 (Za (Zc 10) (Za (tupF (Ze (Zc 2) (Ze (binF ixX (binF ixX (Zc 3) (Zf (.int 0))) (Zf (.int 1))) (Zp)))) (Zk)))) (Zf .non))) (Z9 (binF Zi1 (Zao 2 Z5 (Za (Zc 10) (Za (tupF (Ze (Zc 1) (Ze (Zf (.str "no")) (Zp)))) (Zk)))) (Zf .non)))) (retF (Zf (.bl false))) (Zei)) (retF (andV (binF eqY (Zc 6) (tupF (Ze (Zc 3) (Ze (lstF (Zp)) (Ze (Zc 5) (Zp)))))) (binF isND (Zao 2 Z5 (Za (lstF (Zp)) (Za (binF ixX (Zc 3) (Zf (.int 0))) (Zk)))) (Zf .non))))))))))))))))
noncomputable def Ze2:List D→Option SV:=Zcc Zqb 15
end Gen
namespace Gen
open PySem PySem.Spec PyProof.Rows L2 DL
structure Txt(K:PySem.W.Frag)(mg:Str→Option Value)(fx0 fx1 fx2 fx3 fx4 fx5 fx6 fx7 fx8:Addr):Prop where
 z_bool:mg "bool"=none
 z_enumerate:mg "enumerate"=none
 z_int:mg "int"=none
 z_isinstance:mg "isinstance"=none
 z_len:mg "len"=none
 z_list:mg "list"=none
 z_min:mg "min"=none
 z_range:mg "range"=none
 z_sorted:mg "sorted"=none
 z_str:mg "str"=none
 m_0:mg "_law_names"=some (.ref fx0)
 k_0:PySem.W.keepIn K (.ref fx0)=true
 m_1:mg "_law_mixed"=some (.ref fx1)
 k_1:PySem.W.keepIn K (.ref fx1)=true
 m_2:mg "_law_cell_at"=some (.ref fx2)
 k_2:PySem.W.keepIn K (.ref fx2)=true
 m_3:mg "_law_told"=some (.ref fx3)
 k_3:PySem.W.keepIn K (.ref fx3)=true
 m_4:mg "told_triple"=some (.ref fx4)
 k_4:PySem.W.keepIn K (.ref fx4)=true
 m_5:mg "tells"=some (.ref fx5)
 k_5:PySem.W.keepIn K (.ref fx5)=true
 m_6:mg "_law_due"=some (.ref fx6)
 k_6:PySem.W.keepIn K (.ref fx6)=true
 m_7:mg "heap_of"=some (.ref fx7)
 k_7:PySem.W.keepIn K (.ref fx7)=true
 m_8:mg "law"=some (.ref fx8)
 k_8:PySem.W.keepIn K (.ref fx8)=true
section
variable{P:Program}{w:World}{K:PySem.W.Frag}{mg:Str→Option Value}{base:Heap}{fx0 fx1 fx2 fx3 fx4 fx5 fx6 fx7 fx8 tq c0:Addr}
theorem Zs:FnScope ["_law_number","_law_many","_law_letters","_law_size","_law_at","_law_names_here","_law_turn","_law_name","_law_k","_law_step"] ["_law_number","_law_many"] (Zh Zbi):=⟨rfl,rfl,rfl,by decide+kernel,rfl,by decide+kernel,by decide+kernel⟩
theorem Zgj:FnScope ["_law_cell","_law_by"] ["_law_cell","_law_by"] (Zh Zbj):=⟨rfl,rfl,rfl,by decide+kernel,rfl,by decide+kernel,by decide+kernel⟩
theorem Zdy:FnScope ["_law_script","_law_k"] ["_law_script","_law_k"] (Zh Za3):=⟨rfl,rfl,rfl,by decide+kernel,rfl,by decide+kernel,by decide+kernel⟩
theorem Z7:FnScope ["_law_names_here","_law_fields","_law_script","_law_wide","_law_told_here","_law_k","_law_name","_law_number","_law_j","_law_field","_law_value"] ["_law_names_here","_law_fields","_law_script","_law_wide"] (Zh Zb0):=⟨rfl,rfl,rfl,by decide+kernel,rfl,by decide+kernel,by decide+kernel⟩
theorem Zbu:FnScope ["heap","field","triples"] ["heap","field"] (Zh Za4):=⟨rfl,rfl,rfl,by decide+kernel,rfl,by decide+kernel,by decide+kernel⟩
theorem Zii:FnScope ["heap","field","triple"] ["heap","field"] (Zh Zex):=⟨rfl,rfl,rfl,by decide+kernel,rfl,by decide+kernel,by decide+kernel⟩
theorem Zad:FnScope ["_law_told_here","_law_field","_law_best","_law_many","_law_one","_law_value","_law_names_here"] ["_law_told_here","_law_field"] (Zh Zcr):=⟨rfl,rfl,rfl,by decide+kernel,rfl,by decide+kernel,by decide+kernel⟩
theorem Zcv:FnScope ["pool","name","place","heap"] ["pool","name"] (Zh Zcs):=⟨rfl,rfl,rfl,by decide+kernel,rfl,by decide+kernel,by decide+kernel⟩
theorem Zam:FnScope ["_law_script","_law_book","_law_other","_law_names_here","_law_fields","_law_told_here","_law_heap","_law_field","_law_found","_law_due_here","_law_pool","_law_places","_law_at","_law_some","_law_name"] ["_law_script"] (Zh Zcg):=⟨rfl,rfl,rfl,by decide+kernel,rfl,by decide+kernel,by decide+kernel⟩
theorem okB{x qual:Str}{st:Stmt}{f:Addr}{fd:FuncData}{N ps:List Str}{k n:Nat}(F:Fun K x qual st f fd)(S:FnScope N ps (Zh st))(hn:n=ps.length)(f0:FS)(hb:∀(cdv:Value) (A:Around) (outer:List Env) (s:Shared) (H F0:Hp) (E:XK),Room k (A.deeper (envOfC qual (Zh st) s.heap.objs.size f cdv))→(A.deeper (envOfC qual (Zh st) s.heap.objs.size f cdv)).units+1<cLine→(A.deeper (envOfC qual (Zh st) s.heap.objs.size f cdv)).units+64<cLine→PSs (cxOf CX0 P w K mg base N qual (Zh st) f cdv A outer s H E).nox (Zae st) (Z0 (ent H F0:Ent K) f0)):FnOk P w K mg base CX0 (k+1) f fd ps (spOf K n (Zcc f0 N.length)):=
 F.ok S (fun _ _ _ _ h=>(Zej h).trans hn) fun cdv A outer s H vs Q E hr h=>by
  obtain⟨F0,h⟩:=Zel (N:=N) (f:=f0) h
  exact⟨_,hb cdv A outer s H F0 E hr (Zo5 hr) hr.units,h⟩
variable(T:Txt K mg fx0 fx1 fx2 fx3 fx4 fx5 fx6 fx7 fx8)
include T
theorem Zgk{fd:FuncData}(F:Fun K "_law_names" "_law_names" Zbi fx0 fd):
  FnOk P w K mg base CX0 1 fx0 fd ["_law_number","_law_many"] (spOf K 2 Zac):=by
 refine okB F Zs rfl Zb1 fun _ _ _ _ _ _ _ hr hu hv=>?_
 exact(@Zj _ _ _ _ _ _ (@Zap _ _ _ _ _ 2 _ _ Zs.nd Zmr (by rfl) (by trivial) (by rfl) (by trivial)) (@Zj _ _ _ _ _ _ (@Zap _ _ _ _ _ 3 _ _ Zs.nd (@Zbq _ _ _ _ _ _ _ Zt (@Zdw _ _ _ _ _ _ _ (Zd 0) Zt)) (by rfl) (by trivial) (by rfl) (by trivial)) (@Zj _ _ _ _ _ _ (@Zap _ _ _ _ _ 4 _ _ Zs.nd (@Zdw _ _ _ _ _ _ _ (@Zh1 _ _ _ _ _ _ _ (Zd 0) Zt) (Zd 3)) (by rfl) (by trivial) (by rfl) (by trivial)) (@Zj _ _ _ _ _ _ (@Zap _ _ _ _ _ 5 _ _ Zs.nd (@Zdf _ _ _ _ _ Zau) (by rfl) (by trivial) (by rfl) (by trivial)) (@Zj _ _ _ _ _ _ (@Zek _ _ _ _ _ _ _ _ _ PassesOwn.never rfl (@Zsq _ _ _ _ _ _ _ T.z_range (Zd 1) (by rfl) (by rfl)) (@Z8 _ _ _ 6 _ Zs.nd (by rfl) (by trivial) (by trivial)) (@Zj _ _ _ _ _ _ (@Zap _ _ _ _ _ 7 _ _ Zs.nd Zmr (by rfl) (by trivial) (by rfl) (by trivial)) (@Zj _ _ _ _ _ _ (@Zek _ _ _ _ _ _ _ _ _ PassesOwn.never rfl (@Zsq _ _ _ _ _ _ _ T.z_range (Zd 3) (by rfl) (by rfl)) (@Z8 _ _ _ 8 _ Zs.nd (by rfl) (by trivial) (by trivial)) (@Zj _ _ _ _ _ _ (@Zap _ _ _ _ _ 9 _ _ Zs.nd (@Zk4 _ _ _ _ _ _ _ (Zd 6) (@Zsp _ _ _ _ _ _ T.z_int (@Zs3 _ _ _ _ _ _ _ hv (Zd 8) (Zd 4)) (by rfl) (by rfl) (by rfl))) (by rfl) (by trivial) (by rfl) (by trivial)) (@Z2 _ _ _ _ (@Zap _ _ _ _ _ 7 _ _ Zs.nd (@Zbq _ _ _ _ _ _ _ (Zd 7) (@Zbr _ _ _ _ _ _ _ hu (Zd 2) (@Zdw _ _ _ _ _ _ _ (@Zbq _ _ _ _ _ _ _ (@Zh1 _ _ _ _ _ _ _ (Zd 0) (@Zbq _ _ _ _ _ _ _ (Zd 8) Zt)) (Zd 9)) Zt) (by intro _ _;rfl))) (by rfl) (by trivial) (by rfl) (by trivial)))) (by intro _;rfl)) (@Z2 _ _ _ _ (@Zsr _ _ _ _ _ 5 _ _ _ _ (Zd 7) (by rfl) (by trivial) (by decide) (by decide) (by rfl) (by rfl) (by rfl) (by rfl) (by rfl) (by rfl))))) (by intro _;rfl)) (@Z2 _ _ _ _ (@Zcb _ _ _ _ _ (Zd 5))))))))
theorem Zgl{fd:FuncData}(F:Fun K "_law_mixed" "_law_mixed" Zbj fx1 fd):
  FnOk P w K mg base CX0 1 fx1 fd ["_law_cell","_law_by"] (spOf K 2 Zz):=by
 refine okB F Zgj rfl Zb2 fun _ _ _ _ _ _ _ hr hu hv=>?_
 exact(@Z2 _ _ _ _ (@Zcb _ _ _ _ _ (@Zdw _ _ _ _ _ _ _ (@Zk4 _ _ _ _ _ _ _ (@Zdw _ _ _ _ _ _ _ (Zd 0) Zt) (Zd 1)) Zt)))
theorem Zdz{fd:FuncData}(F:Fun K "_law_cell_at" "_law_cell_at" Za3 fx2 fd):
  FnOk P w K mg base CX0 1 fx2 fd ["_law_script","_law_k"] (spOf K 2 Zn):=by
 refine okB F Zdy rfl Zaz fun _ _ _ _ _ _ _ hr hu hv=>?_
 exact(@Zj _ _ _ _ _ _ (@s_if _ _ _ _ _ _ _ _ _ (@t_lt _ _ _ _ _ _ _ (Zd 1) (@Zfu _ _ _ _ _ _ T.z_len (Zd 0) (by rfl) (by rfl) (by rfl))) (@Z2 _ _ _ _ (@Zcb _ _ _ _ _ (@Zbr _ _ _ _ _ _ _ hu (Zd 0) (Zd 1) (by intro _ _;rfl)))) Zdg) (@Z2 _ _ _ _ (@Zcb _ _ _ _ _ Zt)))
theorem Zhl{fd:FuncData}(F:Fun K "_law_told" "_law_told" Zb0 fx3 fd){dx1:FuncData}(Vx1:FnOk P w K mg base CX0 1 fx1 dx1 ["_law_cell","_law_by"] (spOf K 2 Zz))(Wx1:Zbe K dx1 ["_law_cell","_law_by"] []){dx2:FuncData}(Vx2:FnOk P w K mg base CX0 1 fx2 dx2 ["_law_script","_law_k"] (spOf K 2 Zn))(Wx2:Zbe K dx2 ["_law_script","_law_k"] []):
  FnOk P w K mg base CX0 2 fx3 fd ["_law_names_here","_law_fields","_law_script","_law_wide"] (spOf K 4 Za8):=by
 refine okB F Z7 rfl Zct fun _ _ _ _ _ _ _ hr hu hv=>?_
 exact(@Zj _ _ _ _ _ _ (@Zap _ _ _ _ _ 4 _ _ Z7.nd Zkz (by rfl) (by trivial) (by rfl) (by trivial)) (@Zj _ _ _ _ _ _ (@Zek _ _ _ _ _ _ _ _ _ PassesOwn.never rfl (@Zg8 _ _ _ _ _ _ _ _ _ T.z_enumerate (@Zq _ _ _ _ _ _ (Zd 0) Zau (by rfl)) (by rfl) (by rfl)) (@Zkn _ _ _ _ _ _ _ rfl (@Zah _ _ _ _ _ _ (@Z8 _ _ _ 5 _ Z7.nd (by rfl) (by trivial) (by trivial)) (@Zah _ _ _ _ _ _ (@Z8 _ _ _ 6 _ Z7.nd (by rfl) (by trivial) (by trivial)) Zd3 (by rfl)) (by rfl)) (by rfl) (by rfl)) (@Zj _ _ _ _ _ _ (@Zap _ _ _ _ _ 7 _ _ Z7.nd (@Zaa _ _ _ _ _ _ _ _ _ _ _ _ _ _ Vx1 (hr.mono (by decide)) T.m_1 T.k_1 Wx1 (@Zi _ _ _ _ _ _ (@Zbq _ _ _ _ _ _ _ (@Zaa _ _ _ _ _ _ _ _ _ _ _ _ _ _ Vx2 (hr.mono (by decide)) T.m_2 T.k_2 Wx2 (@Zi _ _ _ _ _ _ (Zd 2) (@Zi _ _ _ _ _ _ (@Zbq _ _ _ _ _ _ _ Zt (Zd 5)) Zag (by rfl)) (by rfl)) (by rfl) (by decide) (by rfl) (by rfl)) (Zd 5)) (@Zi _ _ _ _ _ _ Zt Zag (by rfl)) (by rfl)) (by rfl) (by decide) (by rfl) (by rfl)) (by rfl) (by trivial) (by rfl) (by trivial)) (@Z2 _ _ _ _ (@Zek _ _ _ _ _ _ _ _ _ PassesOwn.never rfl (@Zg8 _ _ _ _ _ _ _ _ _ T.z_enumerate (@Zq _ _ _ _ _ _ (Zd 1) Zau (by rfl)) (by rfl) (by rfl)) (@Zkn _ _ _ _ _ _ _ rfl (@Zah _ _ _ _ _ _ (@Z8 _ _ _ 8 _ Z7.nd (by rfl) (by trivial) (by trivial)) (@Zah _ _ _ _ _ _ (@Z8 _ _ _ 9 _ Z7.nd (by rfl) (by trivial) (by trivial)) Zd3 (by rfl)) (by rfl)) (by rfl) (by rfl)) (@Z2 _ _ _ _ (@s_if _ _ _ _ _ _ _ _ _ (@t_gt _ _ _ _ _ _ _ (@Zdw _ _ _ _ _ _ _ (@Zh1 _ _ _ _ _ _ _ (Zd 7) (@Zbq _ _ _ _ _ _ _ Zt (Zd 8))) Zt) Zt) (@Zj _ _ _ _ _ _ (@Zap _ _ _ _ _ 10 _ _ Z7.nd (@Zbr _ _ _ _ _ _ _ hu (@Zdf _ _ _ _ _ (@Zp3 _ _ _ _ [("a b",_,_),("A b",_,_),("a",_,_),("zz",_,_),("10",_,_),("9",_,_)] Zau)) (@Zdw _ _ _ _ _ _ _ (@Zh1 _ _ _ _ _ _ _ (Zd 7) (@Zbq _ _ _ _ _ _ _ Zt (@Zk4 _ _ _ _ _ _ _ Zt (Zd 8)))) (Zd 3)) (by intro _ _;rfl)) (by rfl) (by trivial) (by rfl) (by trivial)) (@Z2 _ _ _ _ (@Zsy _ _ _ _ _ _ _ 4 _ _ _ hu (@Zde _ _ _ _ _ _ (@Zq _ _ _ _ _ _ (Zd 9) (@Zq _ _ _ _ _ _ (Zd 10) Zau (by rfl)) (by rfl))) (@Zbq _ _ _ _ _ _ _ (@Zsx _ _ _ _ _ _ _ _ _ hu (Zd 4) (@Zq _ _ _ _ _ _ (@Zde _ _ _ _ _ _ (@Zq _ _ _ _ _ _ (Zd 9) (@Zq _ _ _ _ _ _ (Zd 10) Zau (by rfl)) (by rfl))) (@Zq _ _ _ _ _ _ (@Zdf _ _ _ _ _ Zau) Zau (by rfl)) (by rfl)) (by rfl) (by rfl) (by rfl) (by rfl) (by rfl)) (@Zdf _ _ _ _ _ (@Zq _ _ _ _ _ _ (Zd 6) Zau (by rfl)))) (by rfl) (by trivial) (by decide) (by decide) (by rfl)))) Zdg)) (by intro _;rfl)))) (by intro _;rfl)) (@Z2 _ _ _ _ (@Zcb _ _ _ _ _ (@Zko _ _ _ _ _ _ _ _ _ _ _ _ _ _ _ rfl (Zca (N':=["_law_pair","_law_told_here",".acc"]) (src:=[.own,.cap 4,.acc]) (by rfl) (by rfl) (by rfl) (by rfl) (by rfl) (by rfl)) (Zmu 2 (by rfl) (by rfl)) (by decide) (@Zfw _ _ _ _ _ (@Ztv _ _ _ _ _ _ rfl hv T.z_sorted (Zd 4) (by rfl) (by rfl) (by rfl))) (fun _ _ _ _=>@xg _ _ _ (fun _=>(@Z8 _ _ _ 0 _ (show(["_law_pair","_law_told_here",".acc"]:List Str).Nodup by decide+kernel) (by rfl) (by trivial) (by trivial)))) (fun _ _ _ _=>xt0) (fun _ _ _ _=>@xe _ _ _ (fun _=>(@Zde _ _ _ _ _ _ (@Zq _ _ _ _ _ _ (@Zbr _ _ _ _ _ _ _ hu (Zd 0) Zt (by intro _ _;rfl)) (@Zq _ _ _ _ _ _ (@Zbr _ _ _ _ _ _ _ hu (Zd 0) Zt (by intro _ _;rfl)) (@Zq _ _ _ _ _ _ (@Zbr _ _ _ _ _ _ _ hu (Zd 1) (Zd 0) (by intro _ _;rfl)) Zau (by rfl)) (by rfl)) (by rfl))))) (by intro _;rfl))))))
theorem Zd0{fd:FuncData}(F:TX.FunC K "told_triple" "told_triple" Za4 fx4 fd c0)(CT:PySem.W.CodeHd base c0 tq)(BM:TX.BMain mg base):
  FnOk P w K mg base CX0 4 fx4 fd ["heap","field"] (TX.spT tq (Str.ofString "told_triple"++ ".<locals>."++ "<lambda>") (spOf K 2 Zal)):=by
 refine TX.okC F Zbu rfl Zbd fun _ _ _ _ _ _ hT hr hu hv=>?_
 exact(@Zj _ _ _ _ _ _ (@Zkp _ _ _ 2 _ _ _ _ _ _ _ _ _ _ _ _ _ _ _ rfl (Zca (N':=["triple","field",".acc"]) (src:=[.own,.cap 1,.acc]) (by rfl) (by rfl) (by rfl) (by rfl) (by rfl) (by rfl)) (Zmu 2 (by rfl) (by rfl)) (by decide) (@Zfw _ _ _ _ _ (@Zbr _ _ _ _ _ _ _ hu (Zd 0) Zt (by intro _ _;rfl))) (fun _ _ _ _=>@xg _ _ _ (fun _=>(@Z8 _ _ _ 0 _ (show(["triple","field",".acc"]:List Str).Nodup by decide+kernel) (by rfl) (by trivial) (by trivial)))) (fun _ _ _ _=>@xt _ _ _ (fun _=>(@Zpy _ _ _ _ _ _ _ hv (@Zbr _ _ _ _ _ _ _ hu (Zd 0) Zt (by intro _ _;rfl)) (Zd 1)))) (fun _ _ _ _=>@xe _ _ _ (fun _=>(Zd 0))) Zbu.nd (by rfl) (by rfl) (by rfl) (by intro _;rfl)) (@Z2 _ _ _ _ (@Zcb _ _ _ _ _ (@Ztr _ _ _ _ _ _ "triple" _ _ _ _ _ _ _ _ _ _ _ _ (hr.mono (by decide)) hv T.z_min CT hT BM (Zd 2) (fun _ _ _ _ _ _ hu=>(@Zde _ _ _ _ _ _ (@Zq _ _ _ _ _ _ (@Zv0 _ _ _ _ _ (@Zfu _ _ _ _ _ _ T.z_len (@Zbr _ _ _ _ _ _ _ hu (Zd 0) Zt (by intro _ _;rfl)) (by rfl) (by rfl) (by rfl))) (@Zq _ _ _ _ _ _ (@Zbr _ _ _ _ _ _ _ hu (Zd 0) Zt (by intro _ _;rfl)) Zau (by rfl)) (by rfl)))) (by rfl) (by rfl) (by rfl) (by exact⟨rfl,rfl,rfl,rfl,by decide+kernel,by decide⟩) (by rfl) (by rfl) (by intro _ _ _ _ _;rfl) (by rfl) (by rfl) (by rfl) (by rfl)))))
theorem Znj{fd:FuncData}(F:Fun K "tells" "tells" Zex fx5 fd){dx4:FuncData}(Vx4:FnOk P w K mg base CX0 4 fx4 dx4 ["heap","field"] (TX.spT tq (Str.ofString "told_triple"++ ".<locals>."++ "<lambda>") (spOf K 2 Zal)))(Wx4:Zbe K dx4 ["heap","field"] []):
  FnOk P w K mg base CX0 5 fx5 fd ["heap","field"] (TX.spT tq (Str.ofString "told_triple"++ ".<locals>."++ "<lambda>") (spOf K 2 Zcu)):=by
 refine TX.okT F Zii rfl Zey fun _ _ _ _ _ _ _ hT hr hu hv=>?_
 exact(@Zj _ _ _ _ _ _ (@Zap _ _ _ _ _ 2 _ _ Zii.nd (@e_callH _ _ _ _ _ _ _ _ _ _ _ _ _ _ _ _ hT Vx4 (hr.mono (by decide)) T.m_4 T.k_4 Wx4 (@Zi _ _ _ _ _ _ (Zd 0) (@Zi _ _ _ _ _ _ (Zd 1) Zag (by rfl)) (by rfl)) (by rfl) (by decide) (by rfl) (by rfl)) (by rfl) (by trivial) (by rfl) (by trivial)) (@Z2 _ _ _ _ (@Zcb _ _ _ _ _ (@e_if _ _ _ _ _ _ _ _ _ (@Zvw _ _ _ _ _ _ _ (Zd 2) Zfs) Zfs (@Zbr _ _ _ _ _ _ _ hu (Zd 2) Zt (by intro _ _;rfl))))))
theorem Zja{fd:FuncData}(F:Fun K "_law_due" "_law_due" Zcr fx6 fd):
  FnOk P w K mg base CX0 1 fx6 fd ["_law_told_here","_law_field"] (spOf K 2 Zbl):=by
 refine okB F Zad rfl Zdp fun _ _ _ _ _ _ _ hr hu hv=>?_
 exact(@Zj _ _ _ _ _ _ (@Zap _ _ _ _ _ 2 _ _ Zad.nd Zfs (by rfl) (by trivial) (by rfl) (by trivial)) (@Zj _ _ _ _ _ _ (@Zap _ _ _ _ _ 3 _ _ Zad.nd Zt (by rfl) (by trivial) (by rfl) (by trivial)) (@Zj _ _ _ _ _ _ (@Zek _ _ _ _ _ _ _ _ _ PassesOwn.never rfl (@Zfw _ _ _ _ _ (Zd 0)) (@Zkn _ _ _ _ _ _ _ rfl (@Zah _ _ _ _ _ _ (@Z8 _ _ _ 4 _ Zad.nd (by rfl) (by trivial) (by trivial)) (@Zah _ _ _ _ _ _ (@Z8 _ _ _ 5 _ Zad.nd (by rfl) (by trivial) (by trivial)) (@Zah _ _ _ _ _ _ (@Z8 _ _ _ 6 _ Zad.nd (by rfl) (by trivial) (by trivial)) Zd3 (by rfl)) (by rfl)) (by rfl)) (by rfl) (by rfl)) (@Z2 _ _ _ _ (@s_if _ _ _ _ _ _ _ _ _ (@PW.pt _ _ _ (@Zpl _ _ _ _ _ _ _ _ (@Zpy _ _ _ _ _ _ _ hv (Zd 4) (Zd 1)) (@Zkk _ _ _ _ _ (@PW.pt _ _ _ (@w_or _ _ _ _ _ _ _ _ (@t_gt _ _ _ _ _ _ _ (@Zfu _ _ _ _ _ _ T.z_len (Zd 6) (by rfl) (by rfl) (by rfl)) (Zd 3)) (@Zmt _ _ _ _ _ (@PW.pt _ _ _ (@Zpl _ _ _ _ _ _ _ _ (@Zpy _ _ _ _ _ _ _ hv (@Zfu _ _ _ _ _ _ T.z_len (Zd 6) (by rfl) (by rfl) (by rfl)) (Zd 3)) (@Zkk _ _ _ _ _ (@Zw3 _ _ _ _ _ _ _ (Zd 5) (Zd 2))))))))))) (@Zj _ _ _ _ _ _ (@Zap _ _ _ _ _ 2 _ _ Zad.nd (Zd 5) (by rfl) (by trivial) (by rfl) (by trivial)) (@Z2 _ _ _ _ (@Zap _ _ _ _ _ 3 _ _ Zad.nd (@Zfu _ _ _ _ _ _ T.z_len (Zd 6) (by rfl) (by rfl) (by rfl)) (by rfl) (by trivial) (by rfl) (by trivial)))) Zdg)) (by intro _;rfl)) (@Z2 _ _ _ _ (@Zcb _ _ _ _ _ (Zd 2))))))
theorem Zjb{fd:FuncData}(F:Fun K "heap_of" "heap_of" Zcs fx7 fd):
  FnOk P w K mg base CX0 1 fx7 fd ["pool","name"] (spOf K 2 Z5):=by
 refine okB F Zcv rfl Zch fun _ _ _ _ _ _ _ hr hu hv=>?_
 exact(@Zj _ _ _ _ _ _ (@Zek _ _ _ _ _ _ _ _ _ PassesOwn.never rfl (@Zg8 _ _ _ _ _ _ _ _ _ T.z_enumerate (@Zq _ _ _ _ _ _ (Zd 0) Zau (by rfl)) (by rfl) (by rfl)) (@Zkn _ _ _ _ _ _ _ rfl (@Zah _ _ _ _ _ _ (@Z8 _ _ _ 2 _ Zcv.nd (by rfl) (by trivial) (by trivial)) (@Zah _ _ _ _ _ _ (@Z8 _ _ _ 3 _ Zcv.nd (by rfl) (by trivial) (by trivial)) Zd3 (by rfl)) (by rfl)) (by rfl) (by rfl)) (@Z2 _ _ _ _ (@s_if _ _ _ _ _ _ _ _ _ (@Zwr _ _ _ _ _ _ _ hv (Zd 1) (@Zbr _ _ _ _ _ _ _ hu (Zd 3) Zt (by intro _ _;rfl)) (by rfl)) (@Z2 _ _ _ _ (@Zcb _ _ _ _ _ (Zd 2))) Zdg)) (by intro _;rfl)) (@Z2 _ _ _ _ (@Zcb _ _ _ _ _ Zfs)))
theorem Zt2{fd:FuncData}(F:Fun K "law" "law" Zcg fx8 fd){dx0:FuncData}(Vx0:FnOk P w K mg base CX0 1 fx0 dx0 ["_law_number","_law_many"] (spOf K 2 Zac))(Wx0:Zbe K dx0 ["_law_number","_law_many"] []){dx1:FuncData}(Vx1:FnOk P w K mg base CX0 1 fx1 dx1 ["_law_cell","_law_by"] (spOf K 2 Zz))(Wx1:Zbe K dx1 ["_law_cell","_law_by"] []){dx2:FuncData}(Vx2:FnOk P w K mg base CX0 1 fx2 dx2 ["_law_script","_law_k"] (spOf K 2 Zn))(Wx2:Zbe K dx2 ["_law_script","_law_k"] []){dx3:FuncData}(Vx3:FnOk P w K mg base CX0 2 fx3 dx3 ["_law_names_here","_law_fields","_law_script","_law_wide"] (spOf K 4 Za8))(Wx3:Zbe K dx3 ["_law_names_here","_law_fields","_law_script","_law_wide"] []){dx5:FuncData}(Vx5:FnOk P w K mg base CX0 5 fx5 dx5 ["heap","field"] (TX.spT tq (Str.ofString "told_triple"++ ".<locals>."++ "<lambda>") (spOf K 2 Zcu)))(Wx5:Zbe K dx5 ["heap","field"] []){dx6:FuncData}(Vx6:FnOk P w K mg base CX0 1 fx6 dx6 ["_law_told_here","_law_field"] (spOf K 2 Zbl))(Wx6:Zbe K dx6 ["_law_told_here","_law_field"] []){dx7:FuncData}(Vx7:FnOk P w K mg base CX0 1 fx7 dx7 ["pool","name"] (spOf K 2 Z5))(Wx7:Zbe K dx7 ["pool","name"] []):
  FnOk P w K mg base CX0 6 fx8 fd ["_law_script"] (TX.spT tq (Str.ofString "told_triple"++ ".<locals>."++ "<lambda>") (spOf K 1 Ze2)):=by
 refine TX.okT F Zam rfl Zqb fun _ _ _ _ _ _ _ hT hr hu hv=>?_
 exact(@Zj _ _ _ _ _ _ (@Zmv _ _ _ _ _ _ _ (@Zaa _ _ _ _ _ _ _ _ _ _ _ _ _ _ Vx0 (hr.mono (by decide)) T.m_0 T.k_0 Wx0 (@Zi _ _ _ _ _ _ (@Zaa _ _ _ _ _ _ _ _ _ _ _ _ _ _ Vx1 (hr.mono (by decide)) T.m_1 T.k_1 Wx1 (@Zi _ _ _ _ _ _ (@Zaa _ _ _ _ _ _ _ _ _ _ _ _ _ _ Vx2 (hr.mono (by decide)) T.m_2 T.k_2 Wx2 (@Zi _ _ _ _ _ _ (Zd 0) (@Zi _ _ _ _ _ _ Zt Zag (by rfl)) (by rfl)) (by rfl) (by decide) (by rfl) (by rfl)) (@Zi _ _ _ _ _ _ Zt Zag (by rfl)) (by rfl)) (by rfl) (by decide) (by rfl) (by rfl)) (@Zi _ _ _ _ _ _ Zt Zag (by rfl)) (by rfl)) (by rfl) (by decide) (by rfl) (by rfl)) (@Zw4 _ _ _ _ _ _ _ rfl (@Zah _ _ _ _ _ _ (@Z8 _ _ _ 1 _ Zam.nd (by rfl) (by trivial) (by trivial)) (@Zah _ _ _ _ _ _ (@Z8 _ _ _ 2 _ Zam.nd (by rfl) (by trivial) (by trivial)) Zd3 (by rfl)) (by rfl)) (by rfl) (by rfl)) (by rfl) (by rfl) (by rfl)) (@Zj _ _ _ _ _ _ (@Zap _ _ _ _ _ 3 _ _ Zam.nd (@Zaa _ _ _ _ _ _ _ _ _ _ _ _ _ _ Vx0 (hr.mono (by decide)) T.m_0 T.k_0 Wx0 (@Zi _ _ _ _ _ _ (@Zaa _ _ _ _ _ _ _ _ _ _ _ _ _ _ Vx1 (hr.mono (by decide)) T.m_1 T.k_1 Wx1 (@Zi _ _ _ _ _ _ (@Zaa _ _ _ _ _ _ _ _ _ _ _ _ _ _ Vx2 (hr.mono (by decide)) T.m_2 T.k_2 Wx2 (@Zi _ _ _ _ _ _ (Zd 0) (@Zi _ _ _ _ _ _ Zt Zag (by rfl)) (by rfl)) (by rfl) (by decide) (by rfl) (by rfl)) (@Zi _ _ _ _ _ _ Zt Zag (by rfl)) (by rfl)) (by rfl) (by decide) (by rfl) (by rfl)) (@Zi _ _ _ _ _ _ (@Zbq _ _ _ _ _ _ _ Zt (@Zdw _ _ _ _ _ _ _ (@Zaa _ _ _ _ _ _ _ _ _ _ _ _ _ _ Vx2 (hr.mono (by decide)) T.m_2 T.k_2 Wx2 (@Zi _ _ _ _ _ _ (Zd 0) (@Zi _ _ _ _ _ _ Zt Zag (by rfl)) (by rfl)) (by rfl) (by decide) (by rfl) (by rfl)) Zt)) Zag (by rfl)) (by rfl)) (by rfl) (by decide) (by rfl) (by rfl)) (by rfl) (by trivial) (by rfl) (by trivial)) (@Zj _ _ _ _ _ _ (@Zap _ _ _ _ _ 3 _ _ Zam.nd (@Ztq _ _ _ _ _ _ hv T.z_sorted (@Zko _ _ _ _ _ _ _ _ _ _ _ _ _ _ _ rfl (Zca (N':=["_law_key","_law_book",".acc"]) (src:=[.own,.cap 1,.acc]) (by rfl) (by rfl) (by rfl) (by rfl) (by rfl) (by rfl)) (Zmu 2 (by rfl) (by rfl)) (by decide) (@Zfw _ _ _ _ _ (Zd 3)) (fun _ _ _ _=>@xg _ _ _ (fun _=>(@Z8 _ _ _ 0 _ (show(["_law_key","_law_book",".acc"]:List Str).Nodup by decide+kernel) (by rfl) (by trivial) (by trivial)))) (fun _ _ _ _=>xt0) (fun _ _ _ _=>@xe _ _ _ (fun _=>(@Zde _ _ _ _ _ _ (@Zq _ _ _ _ _ _ (Zd 1) (@Zq _ _ _ _ _ _ (Zd 0) Zau (by rfl)) (by rfl))))) (by intro _;rfl)) (by rfl) (by rfl) (by rfl)) (by rfl) (by trivial) (by rfl) (by trivial)) (@Zj _ _ _ _ _ _ (@Zap _ _ _ _ _ 4 _ _ Zam.nd (@Zaa _ _ _ _ _ _ _ _ _ _ _ _ _ _ Vx0 (hr.mono (by decide)) T.m_0 T.k_0 Wx0 (@Zi _ _ _ _ _ _ (@Zaa _ _ _ _ _ _ _ _ _ _ _ _ _ _ Vx1 (hr.mono (by decide)) T.m_1 T.k_1 Wx1 (@Zi _ _ _ _ _ _ (@Zaa _ _ _ _ _ _ _ _ _ _ _ _ _ _ Vx2 (hr.mono (by decide)) T.m_2 T.k_2 Wx2 (@Zi _ _ _ _ _ _ (Zd 0) (@Zi _ _ _ _ _ _ Zt Zag (by rfl)) (by rfl)) (by rfl) (by decide) (by rfl) (by rfl)) (@Zi _ _ _ _ _ _ Zt Zag (by rfl)) (by rfl)) (by rfl) (by decide) (by rfl) (by rfl)) (@Zi _ _ _ _ _ _ Zt Zag (by rfl)) (by rfl)) (by rfl) (by decide) (by rfl) (by rfl)) (by rfl) (by trivial) (by rfl) (by trivial)) (@Zj _ _ _ _ _ _ (@Zap _ _ _ _ _ 5 _ _ Zam.nd (@Zaa _ _ _ _ _ _ _ _ _ _ _ _ _ _ Vx3 (hr.mono (by decide)) T.m_3 T.k_3 Wx3 (@Zi _ _ _ _ _ _ (Zd 3) (@Zi _ _ _ _ _ _ (@e_sl _ _ _ _ _ _ _ _ _ _ (Zd 4) Zso (@Zkl _ _ _ _ Zt)) (@Zi _ _ _ _ _ _ (Zd 0) (@Zi _ _ _ _ _ _ (@Zbq _ _ _ _ _ _ _ Zt (@Zdw _ _ _ _ _ _ _ (@Zaa _ _ _ _ _ _ _ _ _ _ _ _ _ _ Vx2 (hr.mono (by decide)) T.m_2 T.k_2 Wx2 (@Zi _ _ _ _ _ _ (Zd 0) (@Zi _ _ _ _ _ _ Zt Zag (by rfl)) (by rfl)) (by rfl) (by decide) (by rfl) (by rfl)) Zt)) Zag (by rfl)) (by rfl)) (by rfl)) (by rfl)) (by rfl) (by decide) (by rfl) (by rfl)) (by rfl) (by trivial) (by rfl) (by trivial)) (@Zj _ _ _ _ _ _ (@Zap _ _ _ _ _ 6 _ _ Zam.nd (@Zde _ _ _ _ _ _ (@Zq _ _ _ _ _ _ (@Zn0 _ _ _ _ _ _ T.z_list (Zd 3) (by rfl) (by rfl) (by rfl)) (@Zq _ _ _ _ _ _ (@Zdf _ _ _ _ _ Zau) (@Zq _ _ _ _ _ _ (@Zko _ _ _ _ _ _ _ _ _ _ _ _ _ _ _ rfl (Zca (N':=["_law_field","_law_value","_law_some",".acc"]) (src:=[.own,.own,.own,.acc]) (by rfl) (by rfl) (by rfl) (by rfl) (by rfl) (by rfl)) (Zmu 3 (by rfl) (by rfl)) (by decide) (@Zfw _ _ _ _ _ (Zd 5)) (fun _ _ _ _=>@xg _ _ _ (fun _=>(@Zkn _ _ _ _ _ _ _ rfl (@Zah _ _ _ _ _ _ (@Z8 _ _ _ 0 _ (show(["_law_field","_law_value","_law_some",".acc"]:List Str).Nodup by decide+kernel) (by rfl) (by trivial) (by trivial)) (@Zah _ _ _ _ _ _ (@Z8 _ _ _ 1 _ (show(["_law_field","_law_value","_law_some",".acc"]:List Str).Nodup by decide+kernel) (by rfl) (by trivial) (by trivial)) (@Zah _ _ _ _ _ _ (@Z8 _ _ _ 2 _ (show(["_law_field","_law_value","_law_some",".acc"]:List Str).Nodup by decide+kernel) (by rfl) (by trivial) (by trivial)) Zd3 (by rfl)) (by rfl)) (by rfl)) (by rfl) (by rfl)))) (fun _ _ _ _=>xt0) (fun _ _ _ _=>@xe _ _ _ (fun _=>(@Zde _ _ _ _ _ _ (@Zq _ _ _ _ _ _ (Zd 0) (@Zq _ _ _ _ _ _ (Zd 1) (@Zq _ _ _ _ _ _ (@Zn0 _ _ _ _ _ _ T.z_list (Zd 2) (by rfl) (by rfl) (by rfl)) Zau (by rfl)) (by rfl)) (by rfl))))) (by intro _;rfl)) Zau (by rfl)) (by rfl)) (by rfl))) (by rfl) (by trivial) (by rfl) (by trivial)) (@Zj _ _ _ _ _ _ (@Zek _ _ _ _ _ _ _ _ _ PassesOwn.never rfl (@Zfw _ _ _ _ _ (@Zbq _ _ _ _ _ _ _ (Zd 4) (@Zdf _ _ _ _ _ (@Zq _ _ _ _ _ _ Zmr Zau (by rfl))))) (@Z8 _ _ _ 7 _ Zam.nd (by rfl) (by trivial) (by trivial)) (@Zj _ _ _ _ _ _ (@Zap _ _ _ _ _ 8 _ _ Zam.nd (@e_callH _ _ _ _ _ _ _ _ _ _ _ _ _ _ _ _ hT Vx5 (hr.mono (by decide)) T.m_5 T.k_5 Wx5 (@Zi _ _ _ _ _ _ (Zd 6) (@Zi _ _ _ _ _ _ (Zd 7) Zag (by rfl)) (by rfl)) (by rfl) (by decide) (by rfl) (by rfl)) (by rfl) (by trivial) (by rfl) (by trivial)) (@Zj _ _ _ _ _ _ (@Zap _ _ _ _ _ 9 _ _ Zam.nd (@Zaa _ _ _ _ _ _ _ _ _ _ _ _ _ _ Vx6 (hr.mono (by decide)) T.m_6 T.k_6 Wx6 (@Zi _ _ _ _ _ _ (Zd 5) (@Zi _ _ _ _ _ _ (Zd 7) Zag (by rfl)) (by rfl)) (by rfl) (by decide) (by rfl) (by rfl)) (by rfl) (by trivial) (by rfl) (by trivial)) (@Z2 _ _ _ _ (@s_if _ _ _ _ _ _ _ _ _ (@PW.pt _ _ _ (@w_or _ _ _ _ _ _ _ _ (@Zs4 _ _ _ _ _ _ _ hv (Zd 8) (Zd 9)) (@Zmt _ _ _ _ _ (@PW.pt _ _ _ (@Zpl _ _ _ _ _ _ _ _ (@Zkj _ _ _ _ _ _ _ (Zd 9) Zfs) (@Zkk _ _ _ _ _ (@Zsn _ _ _ _ _ (@Zpm _ _ _ _ (@Zpn _ _ _ _ _ _ _ _ _ T.z_isinstance T.z_str boot_str (Zpo _) (Zd 8) (by rfl) (by rfl) (by decide) (by decide) (by rfl) (by rfl) (by rfl)) (by intro _;rfl))))))))) (@Z2 _ _ _ _ (@Zcb _ _ _ _ _ e_bl)) Zdg)))) (by intro _;rfl)) (@Zj _ _ _ _ _ _ (@Zap _ _ _ _ _ 10 _ _ Zam.nd (@Zdf _ _ _ _ _ Zau) (by rfl) (by trivial) (by rfl) (by trivial)) (@Zj _ _ _ _ _ _ (@Zap _ _ _ _ _ 11 _ _ Zam.nd Zkz (by rfl) (by trivial) (by rfl) (by trivial)) (@Zj _ _ _ _ _ _ (@Zap _ _ _ _ _ 12 _ _ Zam.nd Zt (by rfl) (by trivial) (by rfl) (by trivial)) (@Zj _ _ _ _ _ _ (@Zpq _ _ _ _ FUEL _ _ _ PassesOwn.never (@t_lt _ _ _ _ _ _ _ (Zd 12) (@Zfu _ _ _ _ _ _ T.z_len (Zd 3) (by rfl) (by rfl) (by rfl))) (@Zj _ _ _ _ _ _ (@Zap _ _ _ _ _ 13 _ _ Zam.nd (@e_sl _ _ _ _ _ _ _ _ _ _ (Zd 3) (@Zkl _ _ _ _ (Zd 12)) (@Zkl _ _ _ _ (@Zbq _ _ _ _ _ _ _ (@Zbq _ _ _ _ _ _ _ (Zd 12) Zt) (@Zdw _ _ _ _ _ _ _ (@Zaa _ _ _ _ _ _ _ _ _ _ _ _ _ _ Vx1 (hr.mono (by decide)) T.m_1 T.k_1 Wx1 (@Zi _ _ _ _ _ _ (@Zaa _ _ _ _ _ _ _ _ _ _ _ _ _ _ Vx2 (hr.mono (by decide)) T.m_2 T.k_2 Wx2 (@Zi _ _ _ _ _ _ (Zd 0) (@Zi _ _ _ _ _ _ (@Zbq _ _ _ _ _ _ _ Zt (Zd 12)) Zag (by rfl)) (by rfl)) (by rfl) (by decide) (by rfl) (by rfl)) (@Zi _ _ _ _ _ _ Zt Zag (by rfl)) (by rfl)) (by rfl) (by decide) (by rfl) (by rfl)) Zt)))) (by rfl) (by trivial) (by rfl) (by trivial)) (@Zj _ _ _ _ _ _ (@Zek _ _ _ _ _ _ _ _ _ PassesOwn.never rfl (@Zfw _ _ _ _ _ (Zd 13)) (@Z8 _ _ _ 14 _ Zam.nd (by rfl) (by trivial) (by trivial)) (@Z2 _ _ _ _ (@Zsy _ _ _ _ _ _ _ 11 _ _ _ hu (Zd 14) (@Zfu _ _ _ _ _ _ T.z_len (Zd 10) (by rfl) (by rfl) (by rfl)) (by rfl) (by trivial) (by decide) (by decide) (by rfl))) (by intro _;rfl)) (@Zj _ _ _ _ _ _ (@Zap _ _ _ _ _ 12 _ _ Zam.nd (@Zbq _ _ _ _ _ _ _ (Zd 12) (@Zfu _ _ _ _ _ _ T.z_len (Zd 13) (by rfl) (by rfl) (by rfl))) (by rfl) (by trivial) (by rfl) (by trivial)) (@Z2 _ _ _ _ (@Zsr _ _ _ _ _ 10 _ _ _ _ (@Zde _ _ _ _ _ _ (@Zq _ _ _ _ _ _ (Zd 13) (@Zq _ _ _ _ _ _ (@Zdf _ _ _ _ _ Zau) (@Zq _ _ _ _ _ _ (@Zdf _ _ _ _ _ Zau) Zau (by rfl)) (by rfl)) (by rfl))) (by rfl) (by trivial) (by decide) (by decide) (by rfl) (by rfl) (by rfl) (by rfl) (by rfl) (by rfl))))))) (@Zj _ _ _ _ _ _ (@Zek _ _ _ _ _ _ _ _ _ PassesOwn.never rfl (@Zfw _ _ _ _ _ (Zd 3)) (@Z8 _ _ _ 14 _ Zam.nd (by rfl) (by trivial) (by trivial)) (@Zj _ _ _ _ _ _ (@Zap _ _ _ _ _ 8 _ _ Zam.nd (@Zaa _ _ _ _ _ _ _ _ _ _ _ _ _ _ Vx7 (hr.mono (by decide)) T.m_7 T.k_7 Wx7 (@Zi _ _ _ _ _ _ (Zd 10) (@Zi _ _ _ _ _ _ (Zd 14) Zag (by rfl)) (by rfl)) (by rfl) (by decide) (by rfl) (by rfl)) (by rfl) (by trivial) (by rfl) (by trivial)) (@Z2 _ _ _ _ (@s_if _ _ _ _ _ _ _ _ _ (@PW.pt _ _ _ (@w_or _ _ _ _ _ _ _ _ (@Zsn _ _ _ _ _ (@Zpm _ _ _ _ (@Zpn _ _ _ _ _ _ _ _ _ T.z_isinstance T.z_int boot_int (Zpp _) (Zd 8) (by rfl) (by rfl) (by decide) (by decide) (by rfl) (by rfl) (by rfl)) (by intro _;rfl))) (@w_or _ _ _ _ _ _ _ _ (@Zpm _ _ _ _ (@Zpn _ _ _ _ _ _ _ _ _ T.z_isinstance T.z_bool boot_bool (Zm6 _) (Zd 8) (by rfl) (by rfl) (by decide) (by decide) (by rfl) (by rfl) (by rfl)) (by intro _;rfl)) (@Zmt _ _ _ _ _ (@Zs4 _ _ _ _ _ _ _ hv (Zd 8) (@Zbr _ _ _ _ _ _ _ hu (Zd 11) (Zd 14) (by intro _ _;rfl))))))) (@Z2 _ _ _ _ (@Zcb _ _ _ _ _ e_bl)) Zdg))) (by intro _;rfl)) (@Zj _ _ _ _ _ _ (@s_if _ _ _ _ _ _ _ _ _ (@PW.pt _ _ _ (@w_or _ _ _ _ _ _ _ _ (@Zkj _ _ _ _ _ _ _ (@Zaa _ _ _ _ _ _ _ _ _ _ _ _ _ _ Vx7 (hr.mono (by decide)) T.m_7 T.k_7 Wx7 (@Zi _ _ _ _ _ _ (Zd 10) (@Zi _ _ _ _ _ _ (@Zde _ _ _ _ _ _ (@Zq _ _ _ _ _ _ (Zd 2) (@Zq _ _ _ _ _ _ (@Zbr _ _ _ _ _ _ _ hu (@Zbr _ _ _ _ _ _ _ hu (Zd 3) Zt (by intro _ _;rfl)) Zt (by intro _ _;rfl)) Zau (by rfl)) (by rfl))) Zag (by rfl)) (by rfl)) (by rfl) (by decide) (by rfl) (by rfl)) Zfs) (@Zmt _ _ _ _ _ (@Zkj _ _ _ _ _ _ _ (@Zaa _ _ _ _ _ _ _ _ _ _ _ _ _ _ Vx7 (hr.mono (by decide)) T.m_7 T.k_7 Wx7 (@Zi _ _ _ _ _ _ (Zd 10) (@Zi _ _ _ _ _ _ (@Zde _ _ _ _ _ _ (@Zq _ _ _ _ _ _ (Zd 1) (@Zq _ _ _ _ _ _ Zmr Zau (by rfl)) (by rfl))) Zag (by rfl)) (by rfl)) (by rfl) (by decide) (by rfl) (by rfl)) Zfs)))) (@Z2 _ _ _ _ (@Zcb _ _ _ _ _ e_bl)) Zdg) (@Z2 _ _ _ _ (@Zcb _ _ _ _ _ (@Zvy _ _ _ _ _ _ _ _ (@Zs3 _ _ _ _ _ _ _ hv (Zd 6) (@Zde _ _ _ _ _ _ (@Zq _ _ _ _ _ _ (Zd 3) (@Zq _ _ _ _ _ _ (@Zdf _ _ _ _ _ Zau) (@Zq _ _ _ _ _ _ (Zd 5) Zau (by rfl)) (by rfl)) (by rfl)))) (@Zvx _ _ _ _ _ _ (@Zvv _ _ _ _ _ _ _ (@Zaa _ _ _ _ _ _ _ _ _ _ _ _ _ _ Vx7 (hr.mono (by decide)) T.m_7 T.k_7 Wx7 (@Zi _ _ _ _ _ _ (@Zdf _ _ _ _ _ Zau) (@Zi _ _ _ _ _ _ (@Zbr _ _ _ _ _ _ _ hu (Zd 3) Zt (by intro _ _;rfl)) Zag (by rfl)) (by rfl)) (by rfl) (by decide) (by rfl) (by rfl)) Zfs))))))))))))))))))
end
theorem Zt3{l:PySem.W.OpenLaw}{w:World}{K:PySem.W.Frag}{h:Heap}{mg:Str→Option Value}{fa fx0 fx1 fx2 fx3 fx4 fx5 fx6 fx7 fx8 tq c0:Addr}(X:K.In h)(G:h.Ns mainGlobals mg)(hfa:mg "law"=some (.ref fa))(hct:PySem.W.codeHdIn K c0 tq=true)
  {odx8 anx8:Option Addr} {slx8:Array (Option Value)} {ocx8 kVx8 dcx8 pmx8 cdx8 ctx8:Value}
  (ax0:PySem.W.nsIn K mainGlobals "_law_names"=some (some (.ref fx0))) (Fx0:∃fd,Fun K "_law_names" "_law_names" Zbi fx0 fd) (kx0:PySem.W.keepIn K (.ref fx0)=true)
  (ax1:PySem.W.nsIn K mainGlobals "_law_mixed"=some (some (.ref fx1))) (Fx1:∃fd,Fun K "_law_mixed" "_law_mixed" Zbj fx1 fd) (kx1:PySem.W.keepIn K (.ref fx1)=true)
  (ax2:PySem.W.nsIn K mainGlobals "_law_cell_at"=some (some (.ref fx2))) (Fx2:∃fd,Fun K "_law_cell_at" "_law_cell_at" Za3 fx2 fd) (kx2:PySem.W.keepIn K (.ref fx2)=true)
  (ax3:PySem.W.nsIn K mainGlobals "_law_told"=some (some (.ref fx3))) (Fx3:∃fd,Fun K "_law_told" "_law_told" Zb0 fx3 fd) (kx3:PySem.W.keepIn K (.ref fx3)=true)
  (ax4:PySem.W.nsIn K mainGlobals "told_triple"=some (some (.ref fx4))) (Fx4:∃fd,TX.FunC K "told_triple" "told_triple" Za4 fx4 fd c0) (kx4:PySem.W.keepIn K (.ref fx4)=true)
  (ax5:PySem.W.nsIn K mainGlobals "tells"=some (some (.ref fx5))) (Fx5:∃fd,Fun K "tells" "tells" Zex fx5 fd) (kx5:PySem.W.keepIn K (.ref fx5)=true)
  (ax6:PySem.W.nsIn K mainGlobals "_law_due"=some (some (.ref fx6))) (Fx6:∃fd,Fun K "_law_due" "_law_due" Zcr fx6 fd) (kx6:PySem.W.keepIn K (.ref fx6)=true)
  (ax7:PySem.W.nsIn K mainGlobals "heap_of"=some (some (.ref fx7))) (Fx7:∃fd,Fun K "heap_of" "heap_of" Zcs fx7 fd) (kx7:PySem.W.keepIn K (.ref fx7)=true)
  (ax8:PySem.W.nsIn K mainGlobals "law"=some (some (.ref fx8))) (lx8:K.lookup fx8=some ⟨ocx8,odx8,.func (PySem.W.fnOf "law" "law" (Za9 Zcg) (Zae Zcg) (Zh Zcg) .none kVx8 dcx8 pmx8 anx8 cdx8 ctx8),slx8⟩) (cx8:PySem.W.codeIn K cdx8 "law"=true) (kx8:PySem.W.keepIn K (.ref fx8)=true)
  (zbool:PySem.W.nsIn K mainGlobals "bool"=some none)
  (zenumerate:PySem.W.nsIn K mainGlobals "enumerate"=some none)
  (zint:PySem.W.nsIn K mainGlobals "int"=some none)
  (zisinstance:PySem.W.nsIn K mainGlobals "isinstance"=some none)
  (zlen:PySem.W.nsIn K mainGlobals "len"=some none)
  (zlist:PySem.W.nsIn K mainGlobals "list"=some none)
  (zmin:PySem.W.nsIn K mainGlobals "min"=some none)
  (zrange:PySem.W.nsIn K mainGlobals "range"=some none)
  (zsorted:PySem.W.nsIn K mainGlobals "sorted"=some none)
  (zstr:PySem.W.nsIn K mainGlobals "str"=some none)
  :∃fd:FuncData,(∀(s:Shared) (v:Value),BindsTo s fd ⟨[v],[]⟩ [("_law_script",v)])∧∀base:Heap,K.In base→base.Ns mainGlobals mg→TX.BMain mg base→FnOk l.prog w K mg base CX0 6 fa fd ["_law_script"] (TX.spT tq (Str.ofString "told_triple"++ ".<locals>."++ "<lambda>") (spOf K 1 Ze2)):=by
 have e:=hfa.symm.trans (PySem.W.mg_of X G ax8)
 cases e
 have T:Txt K mg fx0 fx1 fx2 fx3 fx4 fx5 fx6 fx7 _:=⟨PySem.W.mg_none_of X G zbool,PySem.W.mg_none_of X G zenumerate,PySem.W.mg_none_of X G zint,PySem.W.mg_none_of X G zisinstance,PySem.W.mg_none_of X G zlen,PySem.W.mg_none_of X G zlist,PySem.W.mg_none_of X G zmin,PySem.W.mg_none_of X G zrange,PySem.W.mg_none_of X G zsorted,PySem.W.mg_none_of X G zstr,PySem.W.mg_of X G ax0,kx0,PySem.W.mg_of X G ax1,kx1,PySem.W.mg_of X G ax2,kx2,PySem.W.mg_of X G ax3,kx3,PySem.W.mg_of X G ax4,kx4,PySem.W.mg_of X G ax5,kx5,PySem.W.mg_of X G ax6,kx6,PySem.W.mg_of X G ax7,kx7,PySem.W.mg_of X G ax8,kx8⟩
 obtain⟨_,Fx0⟩:=Fx0
 obtain⟨_,Fx1⟩:=Fx1
 obtain⟨_,Fx2⟩:=Fx2
 obtain⟨_,Fx3⟩:=Fx3
 obtain⟨_,Fx4⟩:=Fx4
 obtain⟨_,Fx5⟩:=Fx5
 obtain⟨_,Fx6⟩:=Fx6
 obtain⟨_,Fx7⟩:=Fx7
 have Fx8:=Zcw (st:=Zcg) lx8 cx8 kx8
 have bx0:=Fx0.binds (ps:=["_law_number","_law_many"]) fun _ _ _ _ _ _ us hl=>of2 (fun _ _=>rfl) us hl
 have bx1:=Fx1.binds (ps:=["_law_cell","_law_by"]) fun _ _ _ _ _ _ us hl=>of2 (fun _ _=>rfl) us hl
 have bx2:=Fx2.binds (ps:=["_law_script","_law_k"]) fun _ _ _ _ _ _ us hl=>of2 (fun _ _=>rfl) us hl
 have bx3:=Fx3.binds (ps:=["_law_names_here","_law_fields","_law_script","_law_wide"]) fun _ _ _ _ _ _ us hl=>of4 (fun _ _ _ _=>rfl) us hl
 have bx4:=Fx4.fn.binds (ps:=["heap","field"]) fun _ _ _ _ _ _ us hl=>of2 (fun _ _=>rfl) us hl
 have bx5:=Fx5.binds (ps:=["heap","field"]) fun _ _ _ _ _ _ us hl=>of2 (fun _ _=>rfl) us hl
 have bx6:=Fx6.binds (ps:=["_law_told_here","_law_field"]) fun _ _ _ _ _ _ us hl=>of2 (fun _ _=>rfl) us hl
 have bx7:=Fx7.binds (ps:=["pool","name"]) fun _ _ _ _ _ _ us hl=>of2 (fun _ _=>rfl) us hl
 refine⟨PySem.W.fnOf "law" "law" (Za9 Zcg) (Zae Zcg) (Zh Zcg) .none kVx8 dcx8 pmx8 anx8 cdx8 ctx8,fun s v=>.of_eq rfl,fun base kb nb bb=>?_⟩
 have Gx0:=Zgk (P:=l.prog) (w:=w) (base:=base) T Fx0
 have Gx1:=Zgl (P:=l.prog) (w:=w) (base:=base) T Fx1
 have Gx2:=Zdz (P:=l.prog) (w:=w) (base:=base) T Fx2
 have Gx3:=Zhl (P:=l.prog) (w:=w) (base:=base) T Fx3 Gx1 bx1 Gx2 bx2
 have Gx4:=Zd0 (P:=l.prog) (w:=w) (base:=base) T Fx4 (PySem.W.codeHd_of_K kb hct) bb
 have Gx5:=Znj (P:=l.prog) (w:=w) (base:=base) T Fx5 Gx4 bx4
 have Gx6:=Zja (P:=l.prog) (w:=w) (base:=base) T Fx6
 have Gx7:=Zjb (P:=l.prog) (w:=w) (base:=base) T Fx7
 exact Zt2 T Fx8 Gx0 bx0 Gx1 bx1 Gx2 bx2 Gx3 bx3 Gx5 bx5 Gx6 bx6 Gx7 bx7
theorem Zt4{K:PySem.W.Frag}{H:Hp}{a:Addr}{ns:List Int}(hn:Ze2 [.lst (ns.map D.int)]=some (.fz (.bl true)))(hS:SqL K H a (ns.map V.int)):spOf K 1 Ze2 [.ref a] H (fun v H'=>v= .bl true∧Same H H') fun _ _ _=>False:=by
 refine⟨H,[.lst (ns.map D.int)],.fz (.bl true),Same.refl H,.cons (.lst hS (Zh2 ns)) .nil,rfl,hn,fun v H' F' ms sm _ _ _ sh _ _=>?_⟩
 cases Zb6 sh
 exact⟨rfl,sm⟩
theorem walk{l:PySem.W.OpenLaw}{q:Program}{loose:List Str}{XP:(Str→Option Value)→Heap→Prop}{YP:World→Heap→Prop}{d:DefRec}{K:Params→PySem.W.Frag}{tq c0:Addr}(hn:l.most=some 63)(hdf:d.params.defaults=[])
  (hY:∀(w:World) (h:Heap),YP w h→(K w.params).In h∧h.get? tq=some (PySem.W.tabObj #[])) (hcT:∀p:Params,PySem.W.codeHdIn (K p) c0 tq=true) (hKT:∀p:Params,(K p).lookup tq=none)
  (F:∀(w:World) (mg:Str→Option Value) (fa:Addr) (h:Heap),(K w.params).In h→h.Ns mainGlobals mg→mg d.name=some (.ref fa)→
   ∃fd:FuncData,(∀(s:Shared) (u:Value),BindsTo s fd ⟨[u],[]⟩ [("_law_script",u)])∧∀base:Heap,(K w.params).In base→base.Ns mainGlobals mg→TX.BMain mg base→FnOk l.prog w (K w.params) mg base CX0 6 fa fd ["_law_script"] (TX.spT tq (Str.ofString "told_triple"++ ".<locals>."++ "<lambda>") (spOf (K w.params) 1 Ze2)))
  (hlaw:∀ns:List Int,ns.length≤63→Ze2 [.lst (ns.map D.int)]=some (.fz (.bl true))):
  PySem.W.WalkO q loose XP YP l.row.toRowW d [] (fun f vs=>PySem.call f vs):=
 TX.walk_ofT (n:=63) (k:=6) (x:="_law_script") (CX:=CX0) (sp:=fun K=>spOf K 1 Ze2) hn (by decide) hdf ⟨rfl,by decide,by decide⟩ hY hcT hKT F (fun _ _ _ ns hl hS=>Zt4 (hlaw ns hl) hS) fun _ _ _ _ z=>z
end Gen
namespace My
open DL PySem
noncomputable abbrev LT22:Str:="abcdefghjlmpqrstuvwxyz"
theorem Znk:LT22.cps.toList.length=22:=by decide+kernel
theorem Zgm:LT22.length≤PySem.sizeLine:=by decide+kernel
noncomputable def LC(j:Nat):Nat:=LT22.cps.toList.getD j 0
theorem Zt5:∀i<22,∀j<22,LC i=LC j→i=j:=by decide+kernel
theorem Zt6:∀i<22,LC i≠105∧LC i≠110∧LC i≠111:=by decide+kernel
theorem Zw8(i:Int):L2.atI LT22.cps.toList (i % 22)=some (LC (i % 22).toNat):=by
 have h0:0≤i % 22:=Int.emod_nonneg _ (by decide)
 have h1:i % 22<22:=Int.emod_lt_of_pos _ (by decide)
 obtain⟨j,hj⟩:=Int.eq_ofNat_of_zero_le h0
 rw[hj]
 have hjl:j<LT22.cps.toList.length:=by rw[Znk];omega
 refine Zig _ _ _ ?_
 unfold LC
 rw[List.getD_eq_getElem?_getD,show((j:Int)).toNat=j by omega,List.getElem?_eq_getElem hjl]
 rfl
noncomputable def sgn(x:Int)(at':Int)(t:Nat)(k:Nat):Nat:=LC ((x / ((k:Int)+2)+(t:Int)*(if(k:Int)=at' then 1 else 0)) % 22).toNat
noncomputable def nmL(x at':Int)(size t:Nat):List Nat:=(List.range size).map (sgn x at' t)
theorem Zls(a1 a3 a5:Option SV)(x at':Int)(t k:Nat)(hk:k≤100)(w:List Nat)(hw:w.length≤1000)(x9:Option SV):
  ∃y9,Gen.Z4 [some (.fz (.int x)),a1,some (.fz (.str LT22)),a3,some (.fz (.int at')),a5,some (.fz (.int (t:Int))),some (.fz (.str (S w))),some (.fz (.int (k:Int))),x9]=some (.nx [some (.fz (.int x)),a1,some (.fz (.str LT22)),a3,some (.fz (.int at')),a5,some (.fz (.int (t:Int))),some (.fz (.str (S (w++[sgn x at' t k])))),some (.fz (.int (k:Int))),y9]):=by
 have go:∀ki ti:Int,0≤ki→ki≤100→∀b:Int,(b=0∨b=1)→(if ki=at' then(1:Int)else 0)=b→∀ch,L2.atI LT22.cps.toList ((x / (ki+2)+ti*b) % 22)=some ch→
   Gen.Z4 [some (.fz (.int x)),a1,some (.fz (.str LT22)),a3,some (.fz (.int at')),a5,some (.fz (.int ti)),some (.fz (.str (S w))),some (.fz (.int ki)),x9]=some (.nx [some (.fz (.int x)),a1,some (.fz (.str LT22)),a3,some (.fz (.int at')),a5,some (.fz (.int ti)),some (.fz (.str (S (w++[ch])))),some (.fz (.int ki)),some (.fz (.int (ti*b)))]):=by
  intro ki ti h0 h1 b hb hif ch hch
  have hm:=Zs6 (i:=ti) (j:=b) (by omega)
  have d1:0<ki+2:=by omega
  have d2:ki+2<1073741824:=by omega
  have z:(S w).length+(⟨#[ch]⟩:Str).length≤PySem.sizeLine:=Zai (by rw[Zty w];show w.length+1≤_;omega)
  have ea:S w++(⟨#[ch]⟩:Str)=S (w++[ch]):=Zw6 w [ch]
  by_cases hk:ki=at'
  ·rw[if_pos hk]at hif
   subst hif
   unfold Gen.Z4
   simp[hk]at hm hch d1 d2⊢
   simp[hm,hch,d1,d2,Zgm,z,ea]
  ·rw[if_neg hk]at hif
   subst hif
   unfold Gen.Z4
   simp[hk]at hm hch⊢
   simp[hm,hch,d1,d2,Zgm,z,ea]
 refine⟨_,go (k:Int) (t:Int) (by omega) (by omega) (if(k:Int)=at' then 1 else 0) (by split<;> simp) rfl (sgn x at' t k) (Zw8 _)⟩
theorem Zlt(a1 a3 a5:Option SV)(x at':Int)(t size:Nat)(hs:size≤100)(x8 x9:Option SV):
  ∃y8 y9,forD (Zm 8) Gen.Z4 (nats 0 size) [some (.fz (.int x)),a1,some (.fz (.str LT22)),a3,some (.fz (.int at')),a5,some (.fz (.int (t:Int))),some (.fz (.str (S []))),x8,x9]=some (.nx [some (.fz (.int x)),a1,some (.fz (.str LT22)),a3,some (.fz (.int at')),a5,some (.fz (.int (t:Int))),some (.fz (.str (S (nmL x at' size t)))),y8,y9]):=by
 obtain⟨δ',e,y8,y9,hy⟩:=Zdn (tg:=Zm 8) (body:=Gen.Z4) (P:=fun i δ=>∃y8 y9,δ=[some (.fz (.int x)),a1,some (.fz (.str LT22)),a3,some (.fz (.int at')),a5,some (.fz (.int (t:Int))),some (.fz (.str (S (nmL x at' i t)))),y8,y9]) size 0 [some (.fz (.int x)),a1,some (.fz (.str LT22)),a3,some (.fz (.int at')),a5,some (.fz (.int (t:Int))),some (.fz (.str (S []))),x8,x9] ⟨x8,x9,rfl⟩ (fun i _ hi δ ⟨y8,y9,hy⟩=>by
  subst hy
  obtain⟨z9,e⟩:=Zls a1 a3 a5 x at' t i (by omega) (nmL x at' i t) (by unfold nmL;simp;omega) y9
  refine⟨[some (.fz (.int x)),a1,some (.fz (.str LT22)),a3,some (.fz (.int at')),a5,some (.fz (.int (t:Int))),some (.fz (.str (S (nmL x at' i t)))),some (.fz (.int (i:Int))),y9],_,by simp,e,some (.fz (.int (i:Int))),z9,?_⟩
  have:nmL x at' (i+1) t=nmL x at' i t++[sgn x at' t i]:=by unfold nmL;rw[List.range_succ,List.map_append];rfl
  rw[this])
 subst hy
 rw[Nat.zero_add]at e
 exact⟨y8,y9,e⟩
noncomputable def Zax(x at':Int)(size m:Nat):List Str:=(List.range m).map fun t=>S (nmL x at' size t)
theorem Zjc(a1:Option SV)(x at':Int)(size:Nat)(hs:size≤8)(m:Nat)(hm:m≤100):
  ∃δ,forD (Zm 6) Gen.Zay (nats 0 m) [some (.fz (.int x)),a1,some (.fz (.str LT22)),some (.fz (.int (size:Int))),some (.fz (.int at')),some (.ol []),none,none,none,none]=some (.nx δ)∧δ[5]? =some (some (.ol ((Zax x at' size m).map D.str))):=by
 obtain⟨δ',e,y6,y7,y8,y9,hy⟩:=Zdn (tg:=Zm 6) (body:=Gen.Zay) (P:=fun i δ=>∃y6 y7 y8 y9,δ=[some (.fz (.int x)),a1,some (.fz (.str LT22)),some (.fz (.int (size:Int))),some (.fz (.int at')),some (.ol ((Zax x at' size i).map D.str)),y6,y7,y8,y9]) m 0 [some (.fz (.int x)),a1,some (.fz (.str LT22)),some (.fz (.int (size:Int))),some (.fz (.int at')),some (.ol []),none,none,none,none] ⟨none,none,none,none,rfl⟩ (fun i _ hi δ ⟨y6,y7,y8,y9,hy⟩=>by
  subst hy
  obtain⟨z8,z9,e⟩:=Zlt a1 (some (.fz (.int (size:Int)))) (some (.ol ((Zax x at' size i).map D.str))) x at' i size (by omega) y8 y9
  have g1:rngP (size:Int):=Zhx (by omega)
  have et:((size:Int)).toNat=size:=by omega
  have z:(Zax x at' size i).length<PySem.sizeLine:=Zbz (by unfold Zax;simp;omega)
  have he:Str.ofString ""=S []:=rfl
  have hr:Zax x at' size (i+1)=Zax x at' size i++[S (nmL x at' size i)]:=by unfold Zax;rw[List.range_succ,List.map_append];rfl
  refine⟨[some (.fz (.int x)),a1,some (.fz (.str LT22)),some (.fz (.int (size:Int))),some (.fz (.int at')),some (.ol ((Zax x at' size i).map D.str)),some (.fz (.int (i:Int))),y7,y8,y9],[some (.fz (.int x)),a1,some (.fz (.str LT22)),some (.fz (.int (size:Int))),some (.fz (.int at')),some (.ol ((Zax x at' size (i+1)).map D.str)),some (.fz (.int (i:Int))),some (.fz (.str (S (nmL x at' size i)))),z8,z9],by simp,?_,_,_,_,_,rfl⟩
  rw[hr]
  generalize Zax x at' size i=NL at*
  unfold Gen.Zay
  simp[-forD,he,g1,et,Zgi,e,z])
 subst hy
 rw[Nat.zero_add]at e
 exact⟨_,e,rfl⟩
structure Nam(w:Str):Prop where
 one:1≤w.length
 most:w.length≤8
 no:∀c∈w.cps.toList,c≠105∧c≠110∧c≠111
theorem Ze3(x:Int)(h0:0≤x)(m:Nat)(hm:m≤20):∃ws:List Str,Gen.Zac [.int x,.int (m:Int)]=some (.ol (ws.map D.str))∧ws.length=m∧ws.Nodup∧∀w∈ws,Nam w:=by
 have s0:0≤x % 8:=Int.emod_nonneg _ (by decide)
 have s1:x % 8<8:=Int.emod_lt_of_pos _ (by decide)
 obtain⟨size,hs⟩:∃n:Nat,(n:Int)=1+x % 8:=⟨(1+x % 8).toNat,by omega⟩
 have hs1:1≤size:=by omega
 have hs8:size≤8:=by omega
 have p0:(0:Int)<(size:Int):=by omega
 have a0:0≤x / 8 % (size:Int):=Int.emod_nonneg _ (by omega)
 have a1:x / 8 % (size:Int)<(size:Int):=Int.emod_lt_of_pos _ p0
 generalize hat:x / 8 % (size:Int)=at' at a0 a1
 obtain⟨δ,e,hδ⟩:=Zjc (some (.fz (.int (m:Int)))) x at' size hs8 m (by omega)
 have g1:rngP (m:Int):=Zhx (by omega)
 have et:((m:Int)).toNat=m:=by omega
 refine⟨Zax x at' size m,?_,by unfold Zax;simp,?_,fun w hw=>?_⟩
 ·generalize Zax x at' size m=NL at hδ
  unfold Gen.Zac Gen.Zb1
  have hs0:0<size:=by omega
  simp[-forD,←hs,p0,hs0,hat,g1,et,Zgi,e,hδ]
 ·unfold Zax
  refine List.Pairwise.map _ (R:=fun a b=>a≠b∧a<m∧b<m) (fun a b h=>?_) ?_
  ·intro z
   obtain⟨hne,ha,hb⟩:=h
   have hl:=Zw7 z
   obtain⟨k,hk⟩:=Int.eq_ofNat_of_zero_le a0
   have hks:k<size:=by omega
   have e1:(nmL x at' size a)[k]? =some (sgn x at' a k):=by unfold nmL;rw[List.getElem?_map,List.getElem?_range hks];rfl
   have e2:(nmL x at' size b)[k]? =some (sgn x at' b k):=by unfold nmL;rw[List.getElem?_map,List.getElem?_range hks];rfl
   rw[hl,e2]at e1
   have e3:=Option.some.inj e1
   unfold sgn at e3
   rw[if_pos hk.symm]at e3
   have q:=fun y:Int=>(Int.emod_nonneg y (show(22:Int)≠0 by decide))
   have q':=fun y:Int=>(Int.emod_lt_of_pos y (show(0:Int)<22 by decide))
   have r1:=q (x / ((k:Int)+2)+(a:Int)*1)
   have r2:=q' (x / ((k:Int)+2)+(a:Int)*1)
   have r3:=q (x / ((k:Int)+2)+(b:Int)*1)
   have r4:=q' (x / ((k:Int)+2)+(b:Int)*1)
   have e4:=Zt5 _ (by omega) _ (by omega) e3
   generalize x / ((k:Int)+2)=y at*
   omega
  ·have nd:(List.range m).Pairwise (fun a b=>a<b):=List.pairwise_lt_range
   refine(List.Pairwise.and_mem.mp nd).imp fun{a b} h=>?_
   exact⟨Nat.ne_of_lt h.2.2,List.mem_range.mp h.1,List.mem_range.mp h.2.1⟩
 ·unfold Zax at hw
  obtain⟨t,_,rfl⟩:=List.mem_map.mp hw
  have hl:(S (nmL x at' size t)).length=size:=by rw[Zty];unfold nmL;simp
  refine⟨by rw[hl];exact hs1,by rw[hl];exact hs8,fun c hc=>?_⟩
  rw[Ztz]at hc
  unfold nmL at hc
  obtain⟨k,_,rfl⟩:=List.mem_map.mp hc
  have r1:=Int.emod_nonneg (x / ((k:Int)+2)+(t:Int)*(if(k:Int)=at' then 1 else 0)) (show(22:Int)≠0 by decide)
  have r2:=Int.emod_lt_of_pos (x / ((k:Int)+2)+(t:Int)*(if(k:Int)=at' then 1 else 0)) (show(0:Int)<22 by decide)
  exact Zt6 _ (by omega)
theorem Zlu(c b:Int):Gen.Zz [.int c,.int b]=some (.fz (.int (c % 2147483647*b % 2147483647))):=by
 have h1:0≤c % 2147483647:=Int.emod_nonneg _ (by decide)
 have h2:c % 2147483647<2147483647:=Int.emod_lt_of_pos _ (by decide)
 have hm:=Zn8 (i:=c % 2147483647) (j:=b) (by omega)
 unfold Gen.Zz Gen.Zb2
 simp[hm]
theorem Zb3(ns:List Int)(k:Nat):∃c:Int,Gen.Zn [.lst (ns.map D.int),.int (k:Int)]=some (.fz (.int c)):=by
 by_cases h:k<ns.length
 ·have a:L2.atI (ns.map D.int) (k:Int)=some (.int ns[k]):=Zig _ _ _ (by rw[List.getElem?_map,List.getElem?_eq_getElem h];rfl)
  refine⟨ns[k],?_⟩
  have h':(k:Int)<(ns.length:Int):=by omega
  unfold Gen.Zn Gen.Zaz
  simp[h',h,a]
 ·refine⟨0,?_⟩
  have h':¬(k:Int)<(ns.length:Int):=by omega
  unfold Gen.Zn Gen.Zaz
  simp[h',h]
theorem Zhm(c b:Int):0≤c % 2147483647*b % 2147483647:=Int.emod_nonneg _ (by decide)
end My
namespace My
open DL PySem
noncomputable abbrev PR:=Str×Str
noncomputable abbrev Zg(p:PR):D:=.tup [.str p.1,.str p.2]
noncomputable abbrev kf(p:PR):List L2.Key:=[.inr p.1,.inr p.2]
theorem Zij{a b:PR}(h:kf a=kf b):a=b:=by
 simp[kf]at h
 exact Prod.ext h.1 h.2
noncomputable def tE(s:List Nat):List Nat:=s.map (· +1)++[0]
theorem Zqc:∀(s t u v:List Nat),(tE s++u<tE t++v)↔(s<t∨(s=t∧u<v))
 | [],[],u,v=>by
  show(0::u<0::v)↔_
  rw[List.cons_lt_cons_iff]
  simp
 | [],b::t,u,v=>by
  show(0::u<(b+1)::(tE t++v))↔_
  rw[List.cons_lt_cons_iff]
  simp
 |a::s,[],u,v=>by
  show((a+1)::(tE s++u)<0::v)↔_
  rw[List.cons_lt_cons_iff]
  simp
 |a::s,b::t,u,v=>by
  show((a+1)::(tE s++u)<(b+1)::(tE t++v))↔_
  rw[List.cons_lt_cons_iff,Zqc s t u v,List.cons_lt_cons_iff]
  constructor
  ·rintro(h|⟨h1,h2|⟨h2,h3⟩⟩)
   ·exact .inl (.inl (by omega))
   ·exact .inl (.inr ⟨by omega,h2⟩)
   ·exact .inr ⟨by rw[h2,show a=b by omega],h3⟩
  ·rintro((h|⟨h1,h2⟩)|⟨h1,h2⟩)
   ·exact .inl (by omega)
   ·exact .inr ⟨by omega,.inl h2⟩
   ·cases h1;exact .inr ⟨rfl,.inr ⟨rfl,h2⟩⟩
theorem tinj:∀(s t u v:List Nat),tE s++u=tE t++v→s=t∧u=v:=by
 intro s
 induction s with
 |nil=>intro t u v z;cases t with
  |nil=>exact⟨rfl,by simpa[tE]using z⟩
  |cons b t=>simp[tE]at z
 |cons a s ih=>intro t u v z;cases t with
  |nil=>simp[tE]at z
  |cons b t=>
   have z:(a+1)::(tE s++u)=(b+1)::(tE t++v):=z
   obtain⟨z1,z2⟩:=List.cons.inj z
   obtain⟨i1,i2⟩:=ih t u v z2
   exact⟨by rw[i1,show a=b by omega],i2⟩
theorem Zlv{a b:Str}(h:a.cps.toList=b.cps.toList):a=b:=by
 rw[S_of a,S_of b,h]
noncomputable def eP(p:PR):List Nat:=tE p.1.cps.toList++(tE p.2.cps.toList++[])
theorem Zt7{a b:PR}(h:eP a=eP b):a=b:=by
 obtain⟨h1,h2⟩:=tinj _ _ _ _ h
 exact Prod.ext (Zlv h1) (Zlv (tinj _ _ _ _ h2).1)
theorem Zqd(p q:PR):TX.ltD 16 (Zg p) (Zg q)=some (decide (eP p<eP q)):=by
 obtain⟨a,b⟩:=p
 obtain⟨c,d⟩:=q
 have e:=Zqc a.cps.toList c.cps.toList (tE b.cps.toList++[]) (tE d.cps.toList++[])
 have e2:=Zqc b.cps.toList d.cps.toList [] []
 rw[e2]at e
 have e':(eP (a,b)<eP (c,d))↔_:=e
 rw[show decide (eP (a,b)<eP (c,d))=decide _ from decide_eq_decide.mpr e']
 by_cases h1:a=c
 ·subst h1
  have i:=List.lt_irrefl a.cps.toList
  by_cases h2:b=d
  ·subst h2
   have i:=List.lt_irrefl b.cps.toList
   simp
  ·simp[h2]
   exact fun z=>absurd z (by simpa using i)
 ·have:¬a.cps.toList=c.cps.toList:=fun z=>h1 (Zlv z)
  simp[h1]
  exact fun z=>absurd (by rw[z]) this
noncomputable def encP:D→List Nat
 | .tup [.str a,.str b]=>eP (a,b)
 |_=>[]
theorem Zt8(ks:List PR)(nd:ks.Nodup):TX.KeysOk (ks.map Zg):=by
 refine⟨⟨false,fun d hd=>?_⟩,encP,fun a ha b hb=>?_,fun i j hi hj e=>?_⟩
 ·obtain⟨k,_,rfl⟩:=List.mem_map.mp hd
  exact .str _ _
 ·obtain⟨k,hk,rfl⟩:=List.mem_map.mp ha
  obtain⟨l,hl',rfl⟩:=List.mem_map.mp hb
  exact Zqd k l
 ·rw[List.length_map]at hi hj
  have ei:(ks.map Zg).getD i .non=Zg ks[i]:=by rw[List.getD_eq_getElem?_getD,List.getElem?_map,List.getElem?_eq_getElem hi];rfl
  have ej:(ks.map Zg).getD j .non=Zg ks[j]:=by rw[List.getD_eq_getElem?_getD,List.getElem?_map,List.getElem?_eq_getElem hj];rfl
  rw[ei,ej]at e
  exact(List.getElem_inj nd).mp (Zt7 e)
theorem Zgn(ks:List PR)(nd:ks.Nodup)(hl:ks.length<64):∃out:List PR,TX.srtK (ks.map Zg) (ks.map Zg)=some (.ol (out.map Zg))∧out.Perm ks:=by
 obtain⟨p,⟨hp1,hp2⟩,es⟩:=TX.srtK_of (ks:=ks.map Zg) (xs:=ks.map Zg) rfl (by rw[List.length_map];exact hl) (Zt8 ks nd)
 rw[List.length_map]at hp1
 have eo:(p.map fun i=>(ks.map Zg).getD i .non)=(p.map fun i=>ks.getD i ("","")).map Zg:=by
  rw[List.map_map]
  refine List.map_congr_left fun i hi=>?_
  have hil:i<ks.length:=List.mem_range.mp (hp1.mem_iff.mp hi)
  rw[List.getD_eq_getElem?_getD,List.getElem?_map,List.getElem?_eq_getElem hil]
  show Zg ks[i]=Zg (ks.getD i ("",""))
  rw[List.getD_eq_getElem?_getD,List.getElem?_eq_getElem hil];rfl
 rw[eo]at es
 refine⟨_,es,?_⟩
 have:=hp1.map fun i=>ks.getD i ("","")
 refine this.trans (.of_eq ?_)
 refine List.ext_getElem (by simp) fun i h1 h2=>?_
 simp[List.getElem?_eq_getElem h2]
structure Tld(n:Nat)(Ks:List PR)(vs:List D):Prop where
 nd:Ks.Nodup
 len:Ks.length=vs.length
 few:Ks.length≤n
 has:∀p∈Ks,∃l:List PR,l≠[]∧l.length≤n∧look (Ks.map kf) vs (kf p)=some (.lst (l.map Zg))
 no:∀p,p∉Ks→look (Ks.map kf) vs (kf p)=none
theorem Tld.nil:Tld 0 [] []:=⟨List.nodup_nil,rfl,Nat.le_refl _,(fun p hp=>nomatch hp),fun p _=>rfl⟩
theorem Tld.mono{n m:Nat}{Ks:List PR}{vs:List D}(h:Tld n Ks vs)(hm:n≤m):Tld m Ks vs:=
 ⟨h.nd,h.len,Nat.le_trans h.few hm,fun p hp=>by obtain⟨l,h1,h2,h3⟩:=h.has p hp;exact⟨l,h1,by omega,h3⟩,h.no⟩
theorem Tld.put{n:Nat}{Ks:List PR}{vs:List D}(h:Tld n Ks vs)(p nm:PR):∃l:List PR,(look (Ks.map kf) vs (kf p)).getD (.lst [])= .lst (l.map Zg)∧l.length≤n∧
  ∃Ks' vs',putA (Ks.map kf) vs (kf p) (.lst (l.map Zg++[Zg nm]))=(Ks'.map kf,vs')∧Tld (n+1) Ks' vs':=by
 have hm:kf p∈Ks.map kf↔p∈Ks:=⟨fun z=>by obtain⟨a,ha,e⟩:=List.mem_map.mp z;rw[←Zij e];exact ha,fun z=>List.mem_map_of_mem z⟩
 obtain⟨l,e1,e2⟩:∃l:List PR,(look (Ks.map kf) vs (kf p)).getD (.lst [])= .lst (l.map Zg)∧l.length≤n:=by
  by_cases hp:p∈Ks
  ·obtain⟨l,_,h2,h3⟩:=h.has p hp
   exact⟨l,by rw[h3];rfl,h2⟩
  ·exact⟨[],by rw[h.no p hp];rfl,Nat.zero_le _⟩
 refine⟨l,e1,e2,if p∈Ks then Ks else Ks++[p],(putA (Ks.map kf) vs (kf p) (.lst (l.map Zg++[Zg nm]))).2,?_,?_⟩
 ·unfold putA
  by_cases hp:p∈Ks
  ·rw[if_pos hp,if_pos (hm.mpr hp)]
  ·rw[if_neg hp,if_neg fun z=>hp (hm.mp z),List.map_append];rfl
 ·have hl:(Ks.map kf).length=vs.length:=by rw[List.length_map];exact h.len
  have lp:=fun q:PR=>Zni (kf p) (kf q) (.lst (l.map Zg++[Zg nm])) (Ks.map kf) vs hl
  have e0:(putA (Ks.map kf) vs (kf p) (.lst (l.map Zg++[Zg nm]))).1=(if p∈Ks then Ks else Ks++[p]).map kf:=by
   unfold putA
   by_cases hp:p∈Ks
   ·rw[if_pos hp,if_pos (hm.mpr hp)]
   ·rw[if_neg hp,if_neg fun z=>hp (hm.mp z),List.map_append];rfl
  have pl:=Zqa (kf p) (.lst (l.map Zg++[Zg nm])) (Ks.map kf) vs hl
  rw[e0,List.length_map]at pl
  rw[e0]at lp
  have mem:∀q,q∈(if p∈Ks then Ks else Ks++[p])↔(q=p∨q∈Ks):=fun q=>by
   by_cases hp:p∈Ks
   ·rw[if_pos hp];exact⟨.inr,fun z=>by rcases z with z|z;(· rw[z];exact hp);exact z⟩
   ·rw[if_neg hp];simp[or_comm]
  refine⟨?_,pl.1,by have:=h.few;have:=h.len;omega,fun q hq=>?_,fun q hq=>?_⟩
  ·by_cases hp:p∈Ks
   ·rw[if_pos hp];exact h.nd
   ·rw[if_neg hp]
    exact List.nodup_append.mpr ⟨h.nd,by simp,fun a ha b hb=>by simp at hb;subst hb;exact fun z=>hp (z▸ha)⟩
  ·rw[lp q]
   by_cases hq':kf p=kf q
   ·rw[if_pos hq']
    exact⟨l++[nm],by simp,by simp;omega,by rw[List.map_append];rfl⟩
   ·rw[if_neg hq']
    rcases(mem q).mp hq with z|z
    ·exact absurd (by rw[z]) hq'
    ·obtain⟨l',h1,h2,h3⟩:=h.has q z
     exact⟨l',h1,by omega,h3⟩
  ·rw[lp q]
   have hq2:=fun z=>hq ((mem q).mpr z)
   rw[if_neg fun z=>hq2 (.inl (Zij z).symm)]
   exact h.no q fun z=>hq2 (.inr z)
end My
namespace My
open DL PySem
noncomputable abbrev V6:List D:=[.str "a b",.str "A b",.str "a",.str "zz",.str "10",.str "9"]
theorem Zw9(y w:Int)(h0:0<w)(h6:w≤6):∃c:Str,L2.atI V6 (y % w)=some (.str c):=by
 have a0:0≤y % w:=Int.emod_nonneg _ (by omega)
 have a1:y % w<w:=Int.emod_lt_of_pos _ h0
 obtain⟨j,hj⟩:=Int.eq_ofNat_of_zero_le a0
 rw[hj]
 have:j<6:=by omega
 have c:∀j<6,∃c:Str,V6[j]? =some (.str c):=by
  intro j hj
  match j,hj with
  |0,_=>exact⟨_,rfl⟩
  |1,_=>exact⟨_,rfl⟩
  |2,_=>exact⟨_,rfl⟩
  |3,_=>exact⟨_,rfl⟩
  |4,_=>exact⟨_,rfl⟩
  |5,_=>exact⟨_,rfl⟩
 obtain⟨c,hc⟩:=c j this
 exact⟨c,Zig _ _ _ hc⟩
noncomputable abbrev sT(a0 a1 a2:Option SV)(w:Int)(Ks:List PR)(vs:List D)(a5 a6 a7 a8 a9 a10:Option SV):DSt:=[a0,a1,a2,some (.fz (.int w)),some (.oT (Ks.map kf) vs),a5,a6,a7,a8,a9,a10]
theorem Znl(a0 a1 a2 a5:Option SV)(w:Int)(hw:0<w)(hw6:w≤6)(x:Int)(nm:PR)(j:Int)(hj0:0≤j)(hj:j≤10)(f:Str){n:Nat}(hn:n≤1000){Ks:List PR}{vs:List D}(T:Tld n Ks vs)(y10:Option SV):
  ∃Ks' vs' y10',Gen.Zav (sT a0 a1 a2 w Ks vs a5 (some (.fz (Zg nm))) (some (.fz (.int x))) (some (.fz (.int j))) (some (.fz (.str f))) y10)=some (.nx (sT a0 a1 a2 w Ks' vs' a5 (some (.fz (Zg nm))) (some (.fz (.int x))) (some (.fz (.int j))) (some (.fz (.str f))) y10'))∧Tld (n+1) Ks' vs':=by
 have d1:0<3+j:=by omega
 have d2:3+j<1073741824:=by omega
 by_cases hc:0<x / (3+j) % 5
 ·have hm:=Zn8 (i:=6) (j:=j) (by omega)
  have d3:0<11+6*j:=by omega
  have d4:11+6*j<1073741824:=by omega
  have d5:w<1073741824:=by omega
  obtain⟨c,hv⟩:=Zw9 (x / (11+6*j)) w hw hw6
  obtain⟨l,e1,e2,Ks',vs',e3,T'⟩:=T.put (f,c) nm
  refine⟨Ks',vs',some (.fz (.str c)),?_,T'⟩
  have zl:vs.length<PySem.sizeLine:=Zbz (by have:=T.len;have:=T.few;omega)
  have z6:6≤PySem.sizeLine:=Zai (by omega)
  have z2:2≤PySem.sizeLine:=Zai (by omega)
  have z1:1≤PySem.sizeLine:=Zai (by omega)
  have z0:0<PySem.sizeLine:=Zbz (by omega)
  have zz:(l.map Zg).length+1≤PySem.sizeLine:=Zai (by rw[List.length_map];omega)
  unfold sT Gen.Zav
  generalize Ks.map kf=KS at*
  generalize Ks'.map kf=KS' at*
  generalize (List.map Zg l)=L at*
  simp only[kf,Zg]at e1 e3⊢
  simp[hc,hm,d1,d2,d3,d4,hw,d5,hv,e1,e3,z6,z2,z1,z0,zl,zz,-putA,-look]
 ·refine⟨Ks,vs,y10,?_,T.mono (Nat.le_succ n)⟩
  unfold sT Gen.Zav
  simp[hc,d1,d2]
noncomputable abbrev TG89:FG:=Zb9 2 (Zw (Zm 8) (Zw (Zm 9) (Zb8)))
theorem Zlw(a0 a1 a2 a5:Option SV)(w:Int)(hw:0<w)(hw6:w≤6)(x:Int)(nm:PR):∀(fs:List Str) (j n:Nat) (Ks:List PR) (vs:List D) (x8 x9 x10:Option SV),j+fs.length≤10→n+fs.length≤1000→Tld n Ks vs→
  ∃Ks' vs' y8 y9 y10,forD TG89 Gen.Zav (Zhe j (fs.map D.str)) (sT a0 a1 a2 w Ks vs a5 (some (.fz (Zg nm))) (some (.fz (.int x))) x8 x9 x10)=some (.nx (sT a0 a1 a2 w Ks' vs' a5 (some (.fz (Zg nm))) (some (.fz (.int x))) y8 y9 y10))∧Tld (n+fs.length) Ks' vs'
 | [],j,n,Ks,vs,x8,x9,x10,_,_,T=>⟨Ks,vs,x8,x9,x10,rfl,T⟩
 |f::fs,j,n,Ks,vs,x8,x9,x10,hj,hn,T=>by
  rw[List.length_cons]at hj hn
  obtain⟨Ks1,vs1,z10,hb,T1⟩:=Znl a0 a1 a2 a5 w hw hw6 x nm (j:Int) (by omega) (by omega) f (by omega) T x10
  obtain⟨Ks2,vs2,y8,y9,y10,e,T2⟩:=Zlw a0 a1 a2 a5 w hw hw6 x nm fs (j+1) (n+1) Ks1 vs1 (some (.fz (.int (j:Int)))) (some (.fz (.str f))) z10 (by omega) (by omega) T1
  refine⟨Ks2,vs2,y8,y9,y10,?_,by rw[List.length_cons,Nat.add_comm fs.length 1,←Nat.add_assoc];exact T2⟩
  exact(Zbc (by simp[sT]) hb).trans e
noncomputable abbrev TG56:FG:=Zb9 2 (Zw (Zm 5) (Zw (Zm 6) (Zb8)))
theorem Zik(ns:List Int)(fs:List Str)(hf:fs.length≤4)(a0:Option SV)(w:Int)(hw:0<w)(hw6:w≤6):∀(nms:List PR) (k n:Nat) (Ks:List PR) (vs:List D) (x5 x6 x7 x8 x9 x10:Option SV),n+4*nms.length≤1000→Tld n Ks vs→
  ∃Ks' vs' y5 y6 y7 y8 y9 y10,forD TG56 Gen.Za2 (Zhe k (nms.map Zg)) (sT a0 (some (.fz (.lst (fs.map D.str)))) (some (.fz (.lst (ns.map D.int)))) w Ks vs x5 x6 x7 x8 x9 x10)=some (.nx (sT a0 (some (.fz (.lst (fs.map D.str)))) (some (.fz (.lst (ns.map D.int)))) w Ks' vs' y5 y6 y7 y8 y9 y10))∧Tld (n+4*nms.length) Ks' vs'
 | [],k,n,Ks,vs,x5,x6,x7,x8,x9,x10,_,T=>⟨Ks,vs,x5,x6,x7,x8,x9,x10,rfl,T⟩
 |nm::nms,k,n,Ks,vs,x5,x6,x7,x8,x9,x10,hn,T=>by
  rw[List.length_cons]at hn
  obtain⟨c,hc⟩:=Zb3 ns (5+k)
  rw[show(((5+k:Nat)):Int)=5+(k:Int) by omega]at hc
  have hm:=Zlu (c+(k:Int)) 48271
  generalize (c+(k:Int)) % 2147483647*48271 % 2147483647=x at hm
  obtain⟨Ks1,vs1,z8,z9,z10,e1,T1⟩:=Zlw a0 (some (.fz (.lst (fs.map D.str)))) (some (.fz (.lst (ns.map D.int)))) (some (.fz (.int (k:Int)))) w hw hw6 x nm fs 0 n Ks vs x8 x9 x10 (by omega) (by omega) T
  have hb:Gen.Za2 (sT a0 (some (.fz (.lst (fs.map D.str)))) (some (.fz (.lst (ns.map D.int)))) w Ks vs (some (.fz (.int (k:Int)))) (some (.fz (Zg nm))) x7 x8 x9 x10)=some (.nx (sT a0 (some (.fz (.lst (fs.map D.str)))) (some (.fz (.lst (ns.map D.int)))) w Ks1 vs1 (some (.fz (.int (k:Int)))) (some (.fz (Zg nm))) (some (.fz (.int x))) z8 z9 z10)):=by
   unfold sT at e1⊢
   unfold Gen.Za2
   generalize fs.map D.str=FS at*
   generalize ns.map D.int=NS at*
   generalize Ks.map kf=KS at*
   generalize Ks1.map kf=KS1 at*
   simp[-forD,hc,hm,Zdo,e1]
  obtain⟨Ks2,vs2,y5,y6,y7,y8,y9,y10,e,T2⟩:=Zik ns fs hf a0 w hw hw6 nms (k+1) (n+4) Ks1 vs1 (some (.fz (.int (k:Int)))) (some (.fz (Zg nm))) (some (.fz (.int x))) z8 z9 z10 (by omega) (T1.mono (by omega))
  refine⟨Ks2,vs2,y5,y6,y7,y8,y9,y10,?_,by rw[List.length_cons,show n+4*(nms.length+1)=n+4+4*nms.length by omega];exact T2⟩
  exact(Zbc (by simp[sT]) hb).trans e
noncomputable abbrev TR:=Str×Str×List PR
noncomputable abbrev trD(t:TR):D:=.tup [.str t.1,.str t.2.1,.lst (t.2.2.map Zg)]
noncomputable def toTr(KS:List (List L2.Key))(vs:List D):D→D
 | .tup [.str a,.str b]=>.tup [.str a,.str b,(look KS vs (kf (a,b))).getD .non]
 |_=>.non
theorem Zil{n:Nat}{Ks:List PR}{vs:List D}(T:Tld n Ks vs):∀out:List PR,(∀p∈out,p∈Ks)→∃ts:List TR,(out.map Zg).map (toTr (Ks.map kf) vs)=ts.map trD∧ts.length=out.length∧∀t∈ts,t.2.2≠[]∧t.2.2.length≤n
 | [],_=>⟨[],rfl,rfl,fun t ht=>nomatch ht⟩
 |p::out,h=>by
  obtain⟨ts,e,hl,ht⟩:=Zil T out fun q hq=>h q (List.mem_cons_of_mem _ hq)
  obtain⟨l,h1,h2,h3⟩:=T.has p (h p List.mem_cons_self)
  refine⟨(p.1,p.2,l)::ts,?_,by simp[hl],fun t hm=>?_⟩
  ·rw[List.map_cons,List.map_cons,e,List.map_cons]
   congr 1
   show D.tup [.str p.1,.str p.2,(look (Ks.map kf) vs (kf (p.1,p.2))).getD .non]=_
   rw[show kf (p.1,p.2)=kf p from rfl,h3];rfl
  ·rcases List.mem_cons.mp hm with rfl|hm
   ·exact⟨h1,h2⟩
   ·exact ht t hm
theorem Zqe(ns:List Int)(nms:List PR)(hn:nms.length≤9)(fs:List Str)(hf:fs.length≤4)(w:Int)(hw:0<w)(hw6:w≤6):
  ∃ts:List TR,Gen.Za8 [.lst (nms.map Zg),.lst (fs.map D.str),.lst (ns.map D.int),.int w]=some (.ol (ts.map trD))∧ts.length≤36∧∀t∈ts,t.2.2≠[]∧t.2.2.length≤36:=by
 obtain⟨Ks,vs,y5,y6,y7,y8,y9,y10,e,T⟩:=Zik ns fs hf (some (.fz (.lst (nms.map Zg)))) w hw hw6 nms 0 0 [] [] none none none none none none (by omega) Tld.nil
 have T:=T.mono (m:=36) (by omega)
 have few:=T.few
 obtain⟨out,es,hp⟩:=Zgn Ks T.nd (by omega)
 obtain⟨ts,et,hl,ht⟩:=Zil T out fun p hp'=>hp.mem_iff.mp hp'
 refine⟨ts,?_,by rw[hl,hp.length_eq];exact few,ht⟩
 have ek:(Ks.map kf).map DL.Zgg=Ks.map Zg:=by rw[List.map_map];rfl
 have hsrt:DL.Zlp [.dT (Ks.map kf) vs]=some (.ol (out.map Zg)):=by
  show TX.srtK ((Ks.map kf).map DL.Zgg) ((Ks.map kf).map DL.Zgg)=_
  rw[ek];exact es
 have hc:=Zew (te:=Gen.Zbk) (f:=toTr (Ks.map kf) vs) (c:=some (.fz (.dT (Ks.map kf) vs))) (j:=4) (out.map Zg) [] (fun d hd zs=>by
  obtain⟨p,hp',rfl⟩:=List.mem_map.mp hd
  obtain⟨l,_,_,h3⟩:=T.has p (hp.mem_iff.mp hp')
  have z3:3≤PySem.sizeLine:=Zai (by omega)
  unfold toTr
  generalize Ks.map kf=KS at*
  simp only[kf]at h3⊢
  unfold Gen.Zbk
  simp[h3,z3,L2.atI,L2.ixN]) (by simp;have:=hp.length_eq;omega)
 rw[et]at hc
 unfold sT at e
 generalize Ks.map kf=KS at*
 generalize out.map Zg=OUT at*
 generalize ts.map trD=TS at*
 generalize nms.map Zg=NMS at*
 generalize fs.map D.str=FS at*
 generalize ns.map D.int=NS at*
 unfold Gen.Za8 Gen.Zct
 simp[-forD,-Zbb,Zdo]at e⊢
 simp[-forD,-Zbb,Zdo,e,hsrt,hc]
end My
namespace My
open DL PySem
noncomputable def bt(b t:TR):Bool:=decide (b.2.2.length<t.2.2.length)|| (decide (t.2.2.length=b.2.2.length)&&decide (t.2.1.cps.toList<b.2.1.cps.toList))
noncomputable def nxt(o:Option TR)(t:TR):Option TR:=match o with
 |none=>some t
 |some b=>some (if bt b t=true then t else b)
noncomputable def fd(o:Option TR)(l:List TR):Option TR:=l.foldl nxt o
noncomputable abbrev kyD(t:TR):D:=.tup [.int (-(t.2.2.length:Int)),.str t.2.1]
theorem Zxa(t b:TR):TX.ltD 16 (kyD t) (kyD b)=some (bt b t):=by
 obtain⟨_,v,l⟩:=t
 obtain⟨_,u,m⟩:=b
 unfold bt
 simp only[kyD]
 by_cases h1:l.length=m.length
 ·rw[h1]
  by_cases h2:v=u
  ·subst h2
   have i:=List.lt_irrefl v.cps.toList
   simp
  ·simp[h2]
 ·have h1':¬(-(l.length:Int)=-(m.length:Int)):=by omega
  have h2:(-(l.length:Int)< -(m.length:Int))↔m.length<l.length:=by omega
  have h3:¬((l.length:Int)=(m.length:Int)):=by omega
  simp[h1,h3]
theorem Zlx:∀(r pre:List TR) (b:Nat) (tb:TR),pre[b]? =some tb→∃m z,TX.minG (TX.ltD 16) b (kyD tb) (r.map kyD) pre.length=some m∧fd (some tb) r=some z∧(pre++r)[m]? =some z
 | [],pre,b,tb,h=>⟨b,tb,rfl,rfl,by rw[List.append_nil];exact h⟩
 |t::r,pre,b,tb,h=>by
  rw[List.map_cons]
  show∃m z,((TX.ltD 16 (kyD t) (kyD tb)).bind fun c=>if c=true then TX.minG (TX.ltD 16) pre.length (kyD t) (r.map kyD) (pre.length+1)else TX.minG (TX.ltD 16) b (kyD tb) (r.map kyD) (pre.length+1))=some m∧fd (nxt (some tb) t) r=some z∧(pre++t::r)[m]? =some z
  rw[Zxa,Option.bind_some,show pre++t::r=(pre++[t])++r by simp,show pre.length+1=(pre++[t]).length by simp]
  have hb:b<pre.length:=(List.getElem?_eq_some_iff.mp h).1
  rw[show nxt (some tb) t=some (if bt tb t=true then t else tb)from rfl]
  cases hc:bt tb t with
  |true=>
   obtain⟨m,z,h1,h2,h3⟩:=Zlx r (pre++[t]) pre.length t (by simp)
   exact⟨m,z,h1,(by rw[if_pos rfl];exact h2),h3⟩
  |false=>
   obtain⟨m,z,h1,h2,h3⟩:=Zlx r (pre++[t]) b tb (by rw[List.getElem?_append_left hb];exact h)
   exact⟨m,z,h1,(by rw[if_neg (by decide)];exact h2),h3⟩
noncomputable def oTr:Option TR→D
 |none=>.non
 |some t=>trD t
theorem Zqf(l:List TR):∃m,TX.minI (TX.ltD 16) (l.map kyD)=some m∧((m.map fun i=>(l.map trD).getD i .non).getD .non)=oTr (fd none l):=by
 cases l with
 |nil=>exact⟨none,rfl,rfl⟩
 |cons t r=>
  obtain⟨m,z,h1,h2,h3⟩:=Zlx r [t] 0 t rfl
  refine⟨some m,?_,?_⟩
  ·rw[List.map_cons]
   show(TX.minG (TX.ltD 16) 0 (kyD t) (r.map kyD) 1).bind _=_
   rw[show(1:Nat)=[t].length from rfl,h1];rfl
  ·have:fd none (t::r)=some z:=h2
   rw[this]
   show((t::r).map trD).getD m .non=trD z
   rw[List.getD_eq_getElem?_getD,List.getElem?_map]
   have h3:(t::r)[m]? =some z:=h3
   rw[h3];rfl
noncomputable abbrev LB:FE:=tupF (Ze (unF negD (Zaw lenD (Za (binF ixX (Zc 0) (Zf (.int 2))) Zk))) (Ze (binF ixX (Zc 0) (Zf (.int 1))) (Zp)))
theorem Zim:∀l:List TR,(∀t∈l,t.2.2.length≤36)→TX.keysF LB [] (l.map trD)=some (l.map kyD)
 | [],_=>rfl
 |t::l,h=>by
  have ih:=Zim l fun x hx=>h x (List.mem_cons_of_mem _ hx)
  have k1:TX.keyF LB [] (trD t)=some (kyD t):=by
   have z2:2≤PySem.sizeLine:=Zai (by omega)
   simp[z2,L2.atI,L2.ixN]
  rw[List.map_cons,List.map_cons]
  show(TX.keyF LB [] (trD t)).bind (fun k=>(TX.keysF LB [] (l.map trD)).bind fun ks=>some (k::ks))=_
  rw[k1,ih];rfl
noncomputable abbrev Zds(nms:List PR)(ts:List TR):D:=.tup [.lst (nms.map Zg),.lst [],.lst (ts.map trD)]
noncomputable def Zqg(f:Str):D→Option D
 | .tup [.str a,b,c]=>if a=f then some (.tup [.str a,b,c])else none
 |_=>none
theorem Zly(f:Str):∀ts:List TR,(ts.map trD).filterMap (Zqg f)=(ts.filter fun t=>decide (t.1=f)).map trD
 | []=>rfl
 |t::ts=>by
  have ih:=Zly f ts
  by_cases h:t.1=f
  ·rw[List.map_cons,List.filterMap_cons_some (b:=trD t) (by show(if t.1=f then _ else _)=_;rw[if_pos h]),List.filter_cons_of_pos (by simpa using h),List.map_cons,ih]
  ·rw[List.map_cons,List.filterMap_cons_none (by show(if t.1=f then _ else _)=_;rw[if_neg h]),List.filter_cons_of_neg (by simpa using h),ih]
theorem Zlz(nms:List PR)(ts:List TR)(hl:ts.length≤36)(ht:∀t∈ts,t.2.2.length≤36)(f:Str):Gen.Zal [Zds nms ts,.str f]=some (.fz (oTr (fd none (ts.filter fun t=>decide (t.1=f))))):=by
 have hc:=Zhf (src:=[.own,.cap 1,.acc]) (k:=2) (g:=Zm 0) (tt:=Gen.Zaj) (te:=Gen.Zak) (st:=fun ys=>[none,some (.fz (.str f)),some (.ol ys)]) (f:=Zqg f) (ts.map trD) [] (fun d hd zs ds' hz=>by
  obtain⟨t,_,rfl⟩:=List.mem_map.mp hd
  unfold Zqg
  conv=>lhs;rw[Zbb]
  by_cases h:t.1=f
  ·subst h;simp[-Zbb,Gen.Zaj,Gen.Zak,hz,L2.atI,L2.ixN]
  ·simp[-Zbb,Gen.Zaj,Gen.Zak,h,hz,L2.atI,L2.ixN]) (by simp;omega)
 rw[Zly,List.nil_append]at hc
 have hk:=Zim (ts.filter fun t=>decide (t.1=f)) fun t h=>ht t ((List.mem_filter.mp h).1)
 obtain⟨m,hm,ho⟩:=Zqf (ts.filter fun t=>decide (t.1=f))
 generalize (ts.filter fun t=>decide (t.1=f))=FL at*
 unfold LB at hk
 unfold Zds
 generalize FL.map trD=FT at*
 generalize FL.map kyD=FK at*
 generalize ts.map trD=TT at*
 unfold Gen.Zal Gen.Zbd
 generalize (tupF (Ze (unF negD (Zaw lenD (Za (binF ixX (Zc 0) (Zf (.int 2))) Zk))) (Ze (binF ixX (Zc 0) (Zf (.int 1))) (Zp))))=LBB at*
 have hmin:TX.minF LBB [] (.lst FT) [some (.fz (.tup [.lst (nms.map Zg),.lst [],.lst TT])),some (.fz (.str f)),some (.fz (.lst FT))]=some (.tmp (.fz (oTr (fd none FL))),[some (.fz (.tup [.lst (nms.map Zg),.lst [],.lst TT])),some (.fz (.str f)),some (.fz (.lst FT))]):=by
  simp[-TX.keysF,-TX.minI,-TX.ltD,-List.getD_eq_getElem?_getD,hk,hm,ho]
 simp[-Zbb,L2.atI,L2.ixN,hc,hmin,-TX.minF]
end My
namespace My
open DL PySem
noncomputable def dV:Option TR→D
 |none=>.non
 |some t=>.str t.2.1
theorem Znm(nms:List PR)(ts:List TR)(hl:ts.length≤36)(ht:∀t∈ts,t.2.2.length≤36)(f:Str):Gen.Zcu [Zds nms ts,.str f]=some (.fz (dV (fd none (ts.filter fun t=>decide (t.1=f))))):=by
 have e:=Zlz nms ts hl ht f
 generalize (fd none (ts.filter fun t=>decide (t.1=f)))=o at*
 generalize Zds nms ts=HD at*
 cases o with
 |none=>
  unfold oTr at e
  unfold dV Gen.Zcu Gen.Zey
  simp[e]
 |some t=>
  unfold oTr at e
  unfold dV Gen.Zcu Gen.Zey
  simp[e,L2.atI,L2.ixN]
noncomputable def mny:Option TR→Int
 |none=>0
 |some t=>(t.2.2.length:Int)
noncomputable abbrev Zxb:FG:=Zb9 3 (Zw (Zm 4) (Zw (Zm 5) (Zw (Zm 6) (Zb8))))
noncomputable abbrev sD(a0:Option SV)(f:Str)(o:Option TR)(x4 x5 x6:Option SV):DSt:=[a0,some (.fz (.str f)),some (.fz (dV o)),some (.fz (.int (mny o))),x4,x5,x6]
theorem Znn(a0:Option SV)(f:Str)(o:Option TR)(t:TR)(h0:t.2.2≠[]):Gen.Zar (sD a0 f o (some (.fz (.str t.1))) (some (.fz (.str t.2.1))) (some (.fz (.lst (t.2.2.map Zg)))))=
  some (.nx (sD a0 f (if t.1=f then nxt o t else o) (some (.fz (.str t.1))) (some (.fz (.str t.2.1))) (some (.fz (.lst (t.2.2.map Zg)))))):=by
 obtain⟨a,b,l⟩:=t
 have hl:0<l.length:=List.length_pos_iff.mpr h0
 have hl':(0:Int)<(l.length:Int):=by omega
 by_cases h:a=f
 ·rw[if_pos h]
  subst h
  cases o with
  |none=>
   unfold sD nxt Gen.Zar
   simp[dV,mny,hl,hl']
  |some c=>
   obtain⟨_,u,m⟩:=c
   unfold sD nxt bt Gen.Zar
   simp only[dV,mny]
   by_cases h1:m.length<l.length
   ·have h1':(m.length:Int)<(l.length:Int):=by omega
    simp[dV,mny,h1,h1']
   ·have h1':¬(m.length:Int)<(l.length:Int):=by omega
    by_cases h2:l.length=m.length
    ·have h2':(l.length:Int)=(m.length:Int):=by omega
     by_cases h3:b.cps.toList<u.cps.toList
     ·have h3':b.cps<u.cps:=by simpa using h3
      simp[dV,mny,h1,h1',h2,h2',h3']
     ·have h3':¬b.cps<u.cps:=by simpa using h3
      simp[dV,mny,h1,h1',h2,h2',h3']
    ·have h2':¬(l.length:Int)=(m.length:Int):=by omega
     simp[dV,mny,h1,h1',h2,h2']
 ·rw[if_neg h]
  unfold sD Gen.Zar
  simp[h]
theorem Zin(a0:Option SV)(f:Str):∀(ts:List TR) (o:Option TR) (x4 x5 x6:Option SV),(∀t∈ts,t.2.2≠[])→
  ∃y4 y5 y6,forD Zxb Gen.Zar (ts.map trD) (sD a0 f o x4 x5 x6)=some (.nx (sD a0 f (fd o (ts.filter fun t=>decide (t.1=f))) y4 y5 y6))
 | [],o,x4,x5,x6,_=>⟨x4,x5,x6,rfl⟩
 |t::ts,o,x4,x5,x6,h=>by
  have hb:=Znn a0 f o t (h t List.mem_cons_self)
  obtain⟨y4,y5,y6,e⟩:=Zin a0 f ts (if t.1=f then nxt o t else o) (some (.fz (.str t.1))) (some (.fz (.str t.2.1))) (some (.fz (.lst (t.2.2.map Zg)))) fun x hx=>h x (List.mem_cons_of_mem _ hx)
  refine⟨y4,y5,y6,(Zbc (by simp[sD]) hb).trans (e.trans ?_)⟩
  by_cases hf:t.1=f
  ·rw[if_pos hf,List.filter_cons_of_pos (by simpa using hf)];rfl
  ·rw[if_neg hf,List.filter_cons_of_neg (by simpa using hf)]
theorem Zt9(ts:List TR)(h:∀t∈ts,t.2.2≠[])(f:Str):Gen.Zbl [.lst (ts.map trD),.str f]=some (.fz (dV (fd none (ts.filter fun t=>decide (t.1=f))))):=by
 obtain⟨y4,y5,y6,e⟩:=Zin (some (.fz (.lst (ts.map trD)))) f ts none none none none h
 unfold sD dV mny at e
 unfold dV
 generalize (fd none (ts.filter fun t=>decide (t.1=f)))=o at*
 generalize ts.map trD=TT at*
 unfold Gen.Zbl Gen.Zdp
 simp[-forD]at e⊢
 simp[-forD,e]
noncomputable abbrev sL(a0 a1 a2 a3 a4:Option SV)(nms:List PR)(ts:List TR)(r:List (Option SV)):DSt:=[a0,a1,a2,a3,a4,some (.fz (.lst (ts.map trD))),some (.fz (Zds nms ts))]++r
theorem Zgo(a0 a1 a2 a3 a4:Option SV)(nms:List PR)(ts:List TR)(hl:ts.length≤36)(ht:∀t∈ts,t.2.2≠[]∧t.2.2.length≤36):∀(fs:List Str) (x7 x8 x9:Option SV),
  ∃y7 y8 y9,forD (Zm 7) Gen.Zdq (fs.map D.str) (sL a0 a1 a2 a3 a4 nms ts [x7,x8,x9,none,none,none,none,none])=some (.nx (sL a0 a1 a2 a3 a4 nms ts [y7,y8,y9,none,none,none,none,none]))
 | [],x7,x8,x9=>⟨x7,x8,x9,rfl⟩
 |f::fs,x7,x8,x9=>by
  have e1:=Znm nms ts hl (fun t h=>(ht t h).2) f
  have e2:=Zt9 ts (fun t h=>(ht t h).1) f
  generalize ho:(fd none (ts.filter fun t=>decide (t.1=f)))=o at*
  have hb:Gen.Zdq (sL a0 a1 a2 a3 a4 nms ts [some (.fz (.str f)),x8,x9,none,none,none,none,none])=some (.nx (sL a0 a1 a2 a3 a4 nms ts [some (.fz (.str f)),some (.fz (dV o)),some (.fz (dV o)),none,none,none,none,none])):=by
   unfold sL
   generalize Zds nms ts=HD at*
   generalize ts.map trD=TT at*
   cases o with
   |none=>unfold dV at*;unfold Gen.Zdq;simp[e1,e2]
   |some t=>unfold dV at*;unfold Gen.Zdq;simp[e1,e2]
  obtain⟨y7,y8,y9,e⟩:=Zgo a0 a1 a2 a3 a4 nms ts hl ht fs (some (.fz (.str f))) (some (.fz (dV o))) (some (.fz (dV o)))
  exact⟨y7,y8,y9,(Zbc (by simp[sL]) hb).trans e⟩
end My
namespace My
open DL PySem
theorem Zqh(xs:List D)(a b:Nat)(h:a≤xs.length)(hb:a≤b):cutD xs (some (a:Int)) (some (b:Int))=(xs.drop a).take (b- a):=by
 unfold cutD
 rw[HT.sIx_nat,HT.sIx_nat,Nat.min_eq_left h]
 by_cases hx:b≤xs.length
 ·rw[Nat.min_eq_left hx]
 ·rw[Nat.min_eq_right (by omega),List.take_of_length_le (by rw[List.length_drop];omega),List.take_of_length_le (by rw[List.length_drop];omega)]
theorem Zua{p:PR}{done:List PR}(h:p∉done)(vs:List D)(v:D):putA (done.map kf) vs (kf p) v=((done++[p]).map kf,vs++[v]):=by
 have hm:kf p∉done.map kf:=fun z=>by
  obtain⟨a,ha,e⟩:=List.mem_map.mp z
  exact h (by rw[←Zij e];exact ha)
 unfold putA
 simp[hm]
noncomputable abbrev sP(q:List (Option SV))(PL:List D)(Ks:List PR)(vs:List D)(a12 a13 x14:Option SV):DSt:=q++[some (.ol PL),some (.oT (Ks.map kf) vs),a12,a13,x14]
theorem Zl0(a0 a1 a2 a3 a4 a5 a6 a7 a8 a9:Option SV)(PL:List D)(a12 a13:Option SV):∀(c Ks:List PR) (vs:List D) (x14:Option SV),(Ks++c).Nodup→Ks.length=vs.length→vs.length+c.length≤1000→
  ∃y14,forD (Zm 14) Gen.Zez (c.map Zg) (sP [a0,a1,a2,a3,a4,a5,a6,a7,a8,a9] PL Ks vs a12 a13 x14)=some (.nx (sP [a0,a1,a2,a3,a4,a5,a6,a7,a8,a9] PL (Ks++c) (vs++c.map fun _=>D.int (PL.length:Int)) a12 a13 y14))
 | [],Ks,vs,x14,_,_,_=>⟨x14,by simp⟩
 |p::c,Ks,vs,x14,nd,hl,hz=>by
  rw[List.length_cons]at hz
  have hp:p∉Ks:=fun z=>by
   have:=(List.nodup_append.mp nd).2.2 p z p List.mem_cons_self
   exact this rfl
  have pk:=Zua hp vs (.int (PL.length:Int))
  have zv:vs.length<PySem.sizeLine:=Zbz (by omega)
  have hb:Gen.Zez (sP [a0,a1,a2,a3,a4,a5,a6,a7,a8,a9] PL Ks vs a12 a13 (some (.fz (Zg p))))=some (.nx (sP [a0,a1,a2,a3,a4,a5,a6,a7,a8,a9] PL (Ks++[p]) (vs++[.int (PL.length:Int)]) a12 a13 (some (.fz (Zg p))))):=by
   unfold sP
   generalize Ks.map kf=KS at*
   generalize (Ks++[p]).map kf=KS1 at*
   simp only[kf]at pk
   unfold Gen.Zez
   simp[-putA,pk,zv]
  obtain⟨y14,e⟩:=Zl0 a0 a1 a2 a3 a4 a5 a6 a7 a8 a9 PL a12 a13 c (Ks++[p]) (vs++[.int (PL.length:Int)]) (some (.fz (Zg p))) (by rw[List.append_assoc];exact nd) (by simp[hl]) (by simp;omega)
  refine⟨y14,(Zbc (by simp[sP]) hb).trans (e.trans ?_)⟩
  rw[List.append_assoc,List.append_assoc];rfl
noncomputable abbrev chD(c:List PR):D:=.tup [.lst (c.map Zg),.lst [],.lst []]
noncomputable def plV:Nat→List (List PR)→List D
 |_,[]=>[]
 |s,c::r=>(c.map fun _=>D.int (s:Int))++plV (s+1) r
theorem Zio(c:List PR):∀(C:List (List PR)) (s:Nat),plV s (C++[c])=plV s C++c.map fun _=>D.int ((s+C.length:Nat):Int)
 | [],s=>by simp[plV]
 |d::C,s=>by
  rw[List.cons_append]
  show _++plV (s+1) (C++[c])=(_++plV (s+1) C)++_
  rw[Zio c C (s+1),List.append_assoc,List.length_cons,show s+1+C.length=s+(C.length+1) by omega]
theorem Zl1:∀(C:List (List PR)) (s:Nat),(plV s C).length=C.flatten.length
 | [],s=>rfl
 |c::C,s=>by
  show((c.map fun _=>D.int (s:Int))++plV (s+1) C).length=_
  rw[List.length_append,Zl1 C (s+1),List.length_map,List.flatten_cons,List.length_append]
theorem Zl2(ns:List Int)(nms:List PR)(nd:nms.Nodup)(hn:nms.length≤100)(a1 a2 a4 a5 a6 a7 a8 a9:Option SV)(C:List (List PR))(a:Nat)(ha:a<nms.length)(hC:C.flatten=nms.take a)(hc:C.length≤100)(x13 x14:Option SV):
  ∃(c:List PR) (a':Nat) (y13 y14:Option SV),a<a'∧a'≤nms.length∧(C++[c]).flatten=nms.take a'∧
   Gen.Ze0 (sP [some (.fz (.lst (ns.map D.int))),a1,a2,some (.fz (.lst (nms.map Zg))),a4,a5,a6,a7,a8,a9] (C.map chD) (nms.take a) (plV 0 C) (some (.fz (.int (a:Int)))) x13 x14)=
   some (.nx (sP [some (.fz (.lst (ns.map D.int))),a1,a2,some (.fz (.lst (nms.map Zg))),a4,a5,a6,a7,a8,a9] ((C++[c]).map chD) (nms.take a') (plV 0 (C++[c])) (some (.fz (.int (a':Int)))) y13 y14)):=by
 obtain⟨k,ek⟩:=Zb3 ns (5+a)
 rw[show(((5+a:Nat)):Int)=5+(a:Int) by omega]at ek
 have em:=Zlu k 69621
 generalize k % 2147483647*69621 % 2147483647=x at em
 have b0:0≤x % 2:=Int.emod_nonneg _ (by decide)
 have b1:x % 2<2:=Int.emod_lt_of_pos _ (by decide)
 obtain⟨b,hb⟩:=Int.eq_ofNat_of_zero_le b0
 have hcut:cutD (nms.map Zg) (some (a:Int)) (some ((a:Int)+1+x % 2))=((nms.drop a).take (1+b)).map Zg:=by
  rw[hb,show(a:Int)+1+((b:Nat):Int)=((a+1+b:Nat):Int) by omega,Zqh _ _ _ (by simp;omega) (by omega),List.map_take,List.map_drop,show a+1+b- a=1+b by omega]
 generalize hcc:(nms.drop a).take (1+b)=c at*
 have hcl:c.length=min (1+b) (nms.length- a):=by rw[←hcc];simp
 have happ:nms.take a++c=nms.take (a+c.length):=by
  rw[List.take_add,←hcc]
  congr 1
  rw[hcc,hcl]
  rw[←hcc]
  by_cases h:1+b≤nms.length- a
  ·rw[Nat.min_eq_left h]
  ·rw[Nat.min_eq_right (by omega),List.take_of_length_le (by simp;omega),List.take_of_length_le (by simp)]
 have ndp:(nms.take a++c).Nodup:=by rw[happ];exact List.Nodup.sublist (List.take_sublist _ _) nd
 have pl:(plV 0 C).length=a:=by rw[Zl1,hC,List.length_take];omega
 obtain⟨y14,e⟩:=Zl0 (some (.fz (.lst (ns.map D.int)))) a1 a2 (some (.fz (.lst (nms.map Zg)))) a4 a5 a6 a7 a8 a9 (C.map chD) (some (.fz (.int (a:Int)))) (some (.fz (.lst (c.map Zg)))) c (nms.take a) (plV 0 C) x14 ndp (by rw[pl,List.length_take];omega) (by rw[pl];omega)
 refine⟨c,a+c.length,some (.fz (.lst (c.map Zg))),y14,by omega,by omega,by rw[List.flatten_append,hC,←happ];simp,?_⟩
 have ev:=Zio c C 0
 rw[Nat.zero_add]at ev
 rw[List.length_map]at e
 rw[←ev,happ]at e
 have zc:(C.map chD).length<PySem.sizeLine:=Zbz (by rw[List.length_map];omega)
 have z3:3≤PySem.sizeLine:=Zai (by omega)
 have z0:0≤PySem.sizeLine:=Nat.zero_le _
 have hle:((c.map Zg).length:Int)=(c.length:Int):=by simp
 rw[List.map_append,show[c].map chD=[.tup [.lst (c.map Zg),.lst [],.lst []]]from rfl,show((a+c.length:Nat):Int)=(a:Int)+((c.map Zg).length:Int) by rw[hle];omega]
 unfold sP at e⊢
 generalize plV 0 (C++[c])=VV at*
 generalize plV 0 C=V0 at*
 generalize C.map chD=CD at*
 generalize (nms.take (a+c.length)).map kf=K1 at*
 generalize (nms.take a).map kf=K0 at*
 generalize nms.map Zg=NM at*
 generalize c.map Zg=CP at*
 generalize ns.map D.int=NS at*
 unfold Gen.Ze0
 simp[-forD]at e⊢
 simp[-forD,ek,em,hcut,e,zc,z3]
theorem Zjd(ns:List Int)(nms:List PR)(nd:nms.Nodup)(hn:nms.length≤100)(a1 a2 a4 a5 a6 a7 a8 a9:Option SV):∀(n fuel a:Nat) (C:List (List PR)) (x13 x14:Option SV),nms.length≤a+n→n+2≤fuel→a≤nms.length→C.flatten=nms.take a→C.length≤a→
  ∃(C':List (List PR)) (y13 y14:Option SV),C'.flatten=nms∧C'.length≤100∧
   Zbh Gen.Zdr Gen.Ze0 fuel (sP [some (.fz (.lst (ns.map D.int))),a1,a2,some (.fz (.lst (nms.map Zg))),a4,a5,a6,a7,a8,a9] (C.map chD) (nms.take a) (plV 0 C) (some (.fz (.int (a:Int)))) x13 x14)=
   some (.nx (sP [some (.fz (.lst (ns.map D.int))),a1,a2,some (.fz (.lst (nms.map Zg))),a4,a5,a6,a7,a8,a9] (C'.map chD) nms (plV 0 C') (some (.fz (.int (nms.length:Int)))) y13 y14)):=by
 intro n
 induction n with
 |zero=>
  intro fuel a C x13 x14 h1 h2 h3 h4 h5
  obtain⟨m,rfl⟩:∃m,fuel=m+1:=⟨fuel- 1,by omega⟩
  have ea:a=nms.length:=by omega
  subst ea
  rw[List.take_length]at h4⊢
  refine⟨C,x13,x14,h4,by omega,Zeb ?_⟩
  unfold sP Gen.Zdr
  generalize hL:nms.map Zg=NM
  have:NM.length=nms.length:=by rw[←hL];simp
  simp[this]
 |succ n ih=>
  intro fuel a C x13 x14 h1 h2 h3 h4 h5
  obtain⟨m,rfl⟩:∃m,fuel=m+1:=⟨fuel- 1,by omega⟩
  by_cases ha:a<nms.length
  ·obtain⟨c,a',y13,y14,g1,g2,g3,g4⟩:=Zl2 ns nms nd hn a1 a2 a4 a5 a6 a7 a8 a9 C a ha h4 (by omega) x13 x14
   obtain⟨C',z13,z14,k1,k2,k3⟩:=ih m a' (C++[c]) y13 y14 (by omega) (by omega) g2 g3 (by simp;omega)
   refine⟨C',z13,z14,k1,k2,(Zlr ?_ g4).trans k3⟩
   unfold sP Gen.Zdr
   generalize hL:nms.map Zg=NM
   have:NM.length=nms.length:=by rw[←hL];simp
   simp[this,ha]
  ·have ea:a=nms.length:=by omega
   subst ea
   rw[List.take_length]at h4⊢
   refine⟨C,x13,x14,h4,by omega,Zeb ?_⟩
   unfold sP Gen.Zdr
   generalize hL:nms.map Zg=NM
   have:NM.length=nms.length:=by rw[←hL];simp
   simp[this]
end My
namespace My
open DL PySem
theorem Zog:∀c:List PR,tl? (c.map Zg)=some (c.map fun p=>[p.1,p.2])
 | []=>rfl
 |p::c=>by
  have ih:=Zog c
  simp[ih]
theorem Zip(p:PR):∀c:List PR,((c.map fun p=>[p.1,p.2]).any fun x=>decide (x=[p.1,p.2]))=decide (p∈c)
 | []=>rfl
 |q::c=>by
  have ih:=Zip p c
  rw[List.map_cons,List.any_cons,ih]
  by_cases h:q=p
  ·subst h;simp
  ·have h':¬p=q:=fun z=>h z.symm
   have h2:¬[q.1,q.2]=[p.1,p.2]:=fun z=>h (by simp at z;exact Prod.ext z.1 z.2)
   rw[decide_eq_false h2]
   simp[h']
noncomputable abbrev TG23:FG:=Zb9 2 (Zw (Zm 2) (Zw (Zm 3) (Zb8)))
theorem Zl3(a0:Option SV)(p:PR)(i:Nat)(c:List PR):Gen.Za1 [a0,some (.fz (Zg p)),some (.fz (.int (i:Int))),some (.fz (chD c))]=if p∈c then some (.rt (.fz (.int (i:Int))))else some (.nx [a0,some (.fz (Zg p)),some (.fz (.int (i:Int))),some (.fz (chD c))]):=by
 have t:=Zog c
 have a:=Zip p c
 unfold chD
 generalize c.map Zg=CP at*
 generalize (c.map fun p=>[p.1,p.2])=CL at*
 have hin:inP (.tup [.str p.1,.str p.2]) (.lst CP)=some (.fz (.bl (decide (p∈c)))):=by
  unfold inP
  simp only[strs?,Option.bind_some,t,a]
 unfold Gen.Za1
 by_cases h:p∈c
 ·rw[decide_eq_true h]at hin
  rw[if_pos h]
  simp[-inP,hin,L2.atI,L2.ixN]
 ·rw[decide_eq_false h]at hin
  rw[if_neg h]
  simp[-inP,hin,L2.atI,L2.ixN]
theorem Zgp(a0:Option SV)(p:PR):∀(C:List (List PR)) (s:Nat) (x2 x3:Option SV),
  (∃y2 y3,C.findIdx? (fun c=>decide (p∈c))=none∧forD TG23 Gen.Za1 (Zhe s (C.map chD)) [a0,some (.fz (Zg p)),x2,x3]=some (.nx [a0,some (.fz (Zg p)),y2,y3]))∨
  ∃i,C.findIdx? (fun c=>decide (p∈c))=some i∧forD TG23 Gen.Za1 (Zhe s (C.map chD)) [a0,some (.fz (Zg p)),x2,x3]=some (.rt (.fz (.int ((s+i:Nat):Int))))
 | [],s,x2,x3=>.inl ⟨x2,x3,rfl,rfl⟩
 |c::C,s,x2,x3=>by
  have hb:=Zl3 a0 p s c
  rw[List.findIdx?_cons]
  by_cases h:p∈c
  ·rw[if_pos h]at hb
   rw[decide_eq_true h]
   exact .inr ⟨0,rfl,Zp9 (by simp) hb⟩
  ·rw[if_neg h]at hb
   rw[decide_eq_false h]
   rcases Zgp a0 p C (s+1) (some (.fz (.int (s:Int)))) (some (.fz (chD c)))with⟨y2,y3,e1,e2⟩|⟨i,e1,e2⟩
   ·exact .inl ⟨y2,y3,by rw[e1];rfl,(Zbc (by simp) hb).trans e2⟩
   ·exact .inr ⟨i+1,by rw[e1];rfl,(Zbc (by simp) hb).trans (by rw[e2,show s+1+i=s+(i+1) by omega])⟩
noncomputable def pD:Option Nat→D
 |none=>.non
 |some i=>.int (i:Int)
theorem Ze4(C:List (List PR))(p:PR):Gen.Z5 [.lst (C.map chD),Zg p]=some (.fz (pD (C.findIdx? fun c=>decide (p∈c)))):=by
 have h:=Zgp (some (.fz (.lst (C.map chD)))) p C 0 none none
 generalize (C.findIdx? fun c=>decide (p∈c))=o at*
 generalize C.map chD=CD at*
 rcases h with⟨y2,y3,rfl,e⟩|⟨i,rfl,e⟩
 ·unfold pD Gen.Z5 Gen.Zch
  simp[-forD,Zdo]at e⊢
  simp[-forD,e]
 ·rw[Nat.zero_add]at e
  unfold pD Gen.Z5 Gen.Zch
  simp[-forD,Zdo]at e⊢
  simp[-forD,e]
theorem Ziq(p:PR)(v:D)(Ks:List PR)(vs:List D):∀c:List PR,look ((c++Ks).map kf) ((c.map fun _=>v)++vs) (kf p)=if p∈c then some v else look (Ks.map kf) vs (kf p)
 | []=>by simp
 |q::c=>by
  have ih:=Ziq p v Ks vs c
  show(if kf q=kf p then some v else look ((c++Ks).map kf) ((c.map fun _=>v)++vs) (kf p))=_
  by_cases h:q=p
  ·subst h;simp
  ·have h':¬p=q:=fun z=>h z.symm
   rw[if_neg fun z=>h (Zij z),ih]
   simp[h']
theorem Zl4(p:PR):∀(C:List (List PR)) (s:Nat),look (C.flatten.map kf) (plV s C) (kf p)=(C.findIdx? fun c=>decide (p∈c)).map fun i=>D.int ((s+i:Nat):Int)
 | [],s=>rfl
 |c::C,s=>by
  rw[List.flatten_cons]
  show look ((c++C.flatten).map kf) ((c.map fun _=>D.int (s:Int))++plV (s+1) C) (kf p)=_
  rw[Ziq,Zl4 p C (s+1),List.findIdx?_cons]
  by_cases h:p∈c
  ·rw[if_pos h,decide_eq_true h];rfl
  ·rw[if_neg h,decide_eq_false h]
   cases C.findIdx? (fun c=>decide (p∈c))with
   |none=>rfl
   |some i=>
    show some (D.int ((s+1+i:Nat):Int))=some (D.int ((s+(i+1):Nat):Int))
    rw[show s+1+i=s+(i+1) by omega]
theorem Zqi{C:List (List PR)}{p:PR}(h:p∈C.flatten):∃i,(C.findIdx? fun c=>decide (p∈c))=some i:=by
 obtain⟨c,hc,hp⟩:=List.mem_flatten.mp h
 cases e:(C.findIdx? fun c=>decide (p∈c))with
 |some i=>exact⟨i,rfl⟩
 |none=>
  have:=List.findIdx?_eq_none_iff.mp e c hc
  simp[hp]at this
theorem Ze5{C:List (List PR)}{p:PR}(h:p∉C.flatten):(C.findIdx? fun c=>decide (p∈c))=none:=
 List.findIdx?_eq_none_iff.mpr fun c hc=>by
  simp
  exact fun hp=>h (List.mem_flatten.mpr ⟨c,hc,hp⟩)
theorem Zje(a0 a1 a2 a3 a4 a5 a6 a7 a9 a12 a13:Option SV)(C:List (List PR))(p:PR)(x8:Option SV)(h:p∈C.flatten):
  ∃y8,Gen.Ze1 [a0,a1,a2,a3,a4,a5,a6,a7,x8,a9,some (.ol (C.map chD)),some (.oT (C.flatten.map kf) (plV 0 C)),a12,a13,some (.fz (Zg p))]=some (.nx [a0,a1,a2,a3,a4,a5,a6,a7,y8,a9,some (.ol (C.map chD)),some (.oT (C.flatten.map kf) (plV 0 C)),a12,a13,some (.fz (Zg p))]):=by
 have e:=Ze4 C p
 have lk:=Zl4 p C 0
 obtain⟨i,hi⟩:=Zqi h
 rw[hi]at e lk
 unfold pD at e
 have lk:look (C.flatten.map kf) (plV 0 C) (kf p)=some (D.int (i:Int)):=by rw[lk];show some (D.int ((0+i:Nat):Int))=_;rw[Nat.zero_add]
 refine⟨some (.fz (.int (i:Int))),?_⟩
 generalize C.map chD=CD at*
 generalize C.flatten.map kf=KS at*
 generalize plV 0 C=VV at*
 simp only[kf]at lk
 unfold Gen.Ze1
 simp[-look,e,lk]
theorem Zec(a0 a1 a2 a3 a4 a5 a6 a7 a9 a12 a13:Option SV)(C:List (List PR)):∀(ps:List PR) (x8 x14:Option SV),(∀p∈ps,p∈C.flatten)→
  ∃y8 y14,forD (Zm 14) Gen.Ze1 (ps.map Zg) [a0,a1,a2,a3,a4,a5,a6,a7,x8,a9,some (.ol (C.map chD)),some (.oT (C.flatten.map kf) (plV 0 C)),a12,a13,x14]=some (.nx [a0,a1,a2,a3,a4,a5,a6,a7,y8,a9,some (.ol (C.map chD)),some (.oT (C.flatten.map kf) (plV 0 C)),a12,a13,y14])
 | [],x8,x14,_=>⟨x8,x14,rfl⟩
 |p::ps,x8,x14,h=>by
  obtain⟨z8,hb⟩:=Zje a0 a1 a2 a3 a4 a5 a6 a7 a9 a12 a13 C p x8 (h p List.mem_cons_self)
  obtain⟨y8,y14,e2⟩:=Zec a0 a1 a2 a3 a4 a5 a6 a7 a9 a12 a13 C ps z8 (some (.fz (Zg p))) fun q hq=>h q (List.mem_cons_of_mem _ hq)
  exact⟨y8,y14,(Zbc (by simp) hb).trans e2⟩
end My
namespace My
open DL PySem
theorem Zqj(nms:List PR)(ts:List TR):eqM 48 (Zds nms ts) (Zds nms ts)=some true:=by
 have ep:∀n (p:PR),eqM (n+2) (Zg p) (Zg p)=some true:=fun n p=>Zhh _ _ fun x hx=>by
  simp at hx
  rcases hx with rfl|rfl<;> exact Zhi n _
 have el:∀n (l:List PR),eqM (n+3) (.lst (l.map Zg)) (.lst (l.map Zg))=some true:=fun n l=>Zhg _ _ fun x hx=>by
  obtain⟨p,_,rfl⟩:=List.mem_map.mp hx
  exact ep n p
 refine Zhh 47 _ fun x hx=>?_
 simp only[List.mem_cons,List.not_mem_nil,or_false]at hx
 rcases hx with rfl|rfl|rfl
 ·exact el 44 nms
 ·exact Zhg 46 _ fun x hx=>nomatch hx
 ·refine Zhg 46 _ fun x hx=>?_
  obtain⟨t,_,rfl⟩:=List.mem_map.mp hx
  refine Zhh 45 _ fun x hx=>?_
  simp only[List.mem_cons,List.not_mem_nil,or_false]at hx
  rcases hx with rfl|rfl|rfl
  ·exact Zhi 44 _
  ·exact Zhi 44 _
  ·exact el 42 _
theorem law_true(ns:List Int)(hns:ns.length≤63):Gen.Ze2 [.lst (ns.map D.int)]=some (.fz (.bl true)):=by
 obtain⟨c0,e0⟩:=Zb3 ns 0
 obtain⟨c1,e1⟩:=Zb3 ns 1
 obtain⟨c2,e2⟩:=Zb3 ns 2
 obtain⟨c3,e3⟩:=Zb3 ns 3
 obtain⟨c4,e4⟩:=Zb3 ns 4
 rw[show((0:Nat):Int)=0 from rfl]at e0
 rw[show((1:Nat):Int)=1 from rfl]at e1
 rw[show((2:Nat):Int)=2 from rfl]at e2
 rw[show((3:Nat):Int)=3 from rfl]at e3
 rw[show((4:Nat):Int)=4 from rfl]at e4
 have m0:=Zlu c0 39373
 have p0:=Zhm c0 39373
 generalize c0 % 2147483647*39373 % 2147483647=x0 at m0 p0
 have m1:=Zlu c1 16807
 have p1:=Zhm c1 16807
 generalize c1 % 2147483647*16807 % 2147483647=x1 at m1 p1
 have m3:=Zlu c3 16807
 have p3:=Zhm c3 16807
 generalize c3 % 2147483647*16807 % 2147483647=x3 at m3 p3
 obtain⟨ws,n0,wl,wn,wa⟩:=Ze3 x0 p0 2 (by omega)
 obtain⟨book,other,rfl⟩:∃a b,ws=[a,b]:=by
  match ws,wl with
  | [a,b],_=>exact⟨a,b,rfl⟩
 rw[show((2:Nat):Int)=2 from rfl]at n0
 have hbo:other≠book:=fun z=>by subst z;simp at wn
 have q0:0≤c2 % 9:=Int.emod_nonneg _ (by decide)
 have q1:c2 % 9<9:=Int.emod_lt_of_pos _ (by decide)
 obtain⟨m,hm⟩:∃m:Nat,(m:Int)=1+c2 % 9:=⟨(1+c2 % 9).toNat,by omega⟩
 obtain⟨ks,n1,kl,kn,ka⟩:=Ze3 x1 p1 m (by omega)
 rw[hm]at n1
 obtain⟨fs,n3,fl,fn,fa⟩:=Ze3 x3 p3 5 (by omega)
 rw[show((5:Nat):Int)=5 from rfl]at n3
 have r0:0≤c4 % 5:=Int.emod_nonneg _ (by decide)
 have r1:c4 % 5<5:=Int.emod_lt_of_pos _ (by decide)
 have cp:=Zew (te:=Gen.Zhj) (f:=fun d=>.tup [.str book,d]) (c:=some (.fz (.str book))) (j:=1) (ks.map D.str) [] (fun d hd zs=>by
  have z2:2≤PySem.sizeLine:=Zai (by omega)
  unfold Gen.Zhj
  simp[z2]) (by simp;omega)
 have eps:(ks.map D.str).map (fun d=>D.tup [.str book,d])=(ks.map fun k=>(book,k)).map Zg:=by rw[List.map_map,List.map_map];rfl
 rw[eps,List.nil_append]at cp
 have ndp:(ks.map fun k=>(book,k)).Nodup:=List.Pairwise.map _ (R:=fun a b:Str=>a≠b) (fun a b h z=>h (congrArg Prod.snd z)) kn
 obtain⟨out,es,hp⟩:=Zgn (ks.map fun k=>(book,k)) ndp (by rw[List.length_map];omega)
 have hsrt:DL.Zli [.lst ((ks.map fun k=>(book,k)).map Zg)]=some (.ol (out.map Zg)):=es
 have ndo:out.Nodup:=hp.nodup_iff.mpr ndp
 have lo:out.length=m:=by rw[hp.length_eq,List.length_map,kl]
 have mo:∀p∈out,p.1=book∧Nam p.2:=fun p h=>by
  obtain⟨k,hk,rfl⟩:=List.mem_map.mp (hp.mem_iff.mp h)
  exact⟨rfl,ka k hk⟩
 have hcut:cutD (fs.map D.str) none (some 4)=(fs.take 4).map D.str:=by
  rw[show(4:Int)=((4:Nat):Int)from rfl,Zt1 _ 4 (by rw[List.length_map];omega),List.map_take]
 obtain⟨ts,et,tl,ta⟩:=Zqe ns out (by omega) (fs.take 4) (by rw[List.length_take];omega) (2+c4 % 5) (by omega) (by omega)
 have ct:=Zhf (src:=[.own,.own,.own,.acc]) (k:=3) (g:=Zb9 3 (Zw (Zm 0) (Zw (Zm 1) (Zw (Zm 2) (Zb8))))) (tt:=Zg0) (te:=Gen.Zhk) (st:=fun ys=>[none,none,none,some (.ol ys)]) (f:=some) (ts.map trD) [] (fun d hd zs ds' hz=>by
  obtain⟨t,_,rfl⟩:=List.mem_map.mp hd
  have z3:3≤PySem.sizeLine:=Zai (by omega)
  conv=>lhs;rw[Zbb]
  simp[-Zbb,Gen.Zhk,hz,z3]) (by simp;omega)
 rw[List.filterMap_some,List.nil_append]at ct
 obtain⟨q,o',ho⟩:∃q o',out=q::o':=by
  cases out with
  |nil=>simp at lo;omega
  |cons q o'=>exact⟨q,o',rfl⟩
 have a0:L2.atI (out.map Zg) 0=some (Zg q):=by
  rw[show(0:Int)=((0:Nat):Int)from rfl]
  exact Zig _ _ _ (by rw[ho];rfl)
 obtain⟨y7,y8,y9,tlp⟩:=Zgo (some (.fz (.lst (ns.map D.int)))) (some (.fz (.str book))) (some (.fz (.str other))) (some (.fz (.lst (out.map Zg)))) (some (.ol (fs.map D.str))) out ts tl ta (fs++[Str.ofString "in"]) none none none
 obtain⟨C,y13,y14,hC,_,pw⟩:=Zjd ns out ndo (by omega) (some (.fz (.str book))) (some (.fz (.str other))) (some (.ol (fs.map D.str))) (some (.fz (.lst (ts.map trD)))) (some (.fz (Zds out ts))) y7 y8 y9 out.length 1000 0 [] none none (by omega) (by omega) (by omega) rfl (by simp)
 obtain⟨z8,z14,pll⟩:=Zec (some (.fz (.lst (ns.map D.int)))) (some (.fz (.str book))) (some (.fz (.str other))) (some (.fz (.lst (out.map Zg)))) (some (.ol (fs.map D.str))) (some (.fz (.lst (ts.map trD)))) (some (.fz (Zds out ts))) y7 y9 (some (.fz (.int (out.length:Int)))) y13 C out y8 y14 (fun p h=>by rw[hC];exact h)
 have h1:=Ze4 C (other,q.2)
 rw[Ze5 (by rw[hC];exact fun z=>hbo (mo _ z).1)]at h1
 have h2:=Ze4 C (book,"no")
 rw[Ze5 (by rw[hC];exact fun z=>(((mo _ z).2.no 110 (show 110∈(Str.ofString "no").cps.toList by decide+kernel)).2.1 rfl))]at h2
 have h3:=Ze4 [] q
 rw[Ze5 (by simp)]at h3
 have h3:Gen.Z5 [.lst [],.tup [.str q.1,.str q.2]]=some (.fz .non):=h3
 have h1:Gen.Z5 [.lst (C.map chD),.tup [.str other,.str q.2]]=some (.fz .non):=h1
 have h2:Gen.Z5 [.lst (C.map chD),.tup [.str book,.str (Str.ofString "no")]]=some (.fz .non):=h2
 have he:=Zqj out ts
 have hadd:(fs.map D.str)++[.str (Str.ofString "in")]=(fs++[Str.ofString "in"]).map D.str:=by simp
 have z6:(fs.map D.str).length+1≤PySem.sizeLine:=Zai (by simp;omega)
 have z2:2≤PySem.sizeLine:=Zai (by omega)
 have z3:3≤PySem.sizeLine:=Zai (by omega)
 have z1:1≤PySem.sizeLine:=Zai (by omega)
 rw[←hadd]at tlp
 unfold sL at tlp
 unfold sP at pw
 rw[show((0:Nat):Int)=0 from rfl]at pw
 rw[hC]at pll
 unfold Zds at*
 generalize plV 0 C=VV at*
 generalize C.map chD=CD at*
 generalize out.map kf=OK at*
 generalize ((ks.map fun k=>(book,k)).map Zg)=KP at*
 generalize out.map Zg=OP at*
 generalize ts.map trD=TT at*
 generalize hfs:(fs.take 4).map D.str=F4 at*
 generalize fs.map D.str=FS at*
 generalize ks.map D.str=KS at*
 generalize ns.map D.int=NS at*
 simp[-forD,-Zbb]at tlp
 simp[-Zbb,plV]at pw
 have at1:∀a b:D,L2.atI [a,b] 1=some b:=fun _ _=>rfl
 unfold Gen.Ze2 Gen.Zqb Gen.FUEL
 simp[-forD,-Zbb,-eqM,e0,m0,n0,e1,m1,e2,n1,cp,hsrt,e3,m3,n3,hcut,e4,et,ct,z3,z1,z2,z6,tlp,pw,pll,a0,h1,h2,h3,he,at1]
end My
def PySem.W.Fast.tw16736132397653914505:=()
def PySem.W.Fast.tw2442661063518886936:=()
def PySem.W.Fast.tw10152949586831151524:=()
def PySem.W.Fast.tw9859273785313215758:=()
def PySem.W.Fast.tw10673897913729275365:=()
def PySem.W.Fast.tw15201337397811254747:=()
open PySem PySem.W PyProof.Rows
set_option maxRecDepth 100000 in
set_option maxHeartbeats 0 in
theorem PySem.Challenge.cw_citeward_k40_what_a_heap_tells_holds : PySem.Challenge.rw_citeward_k40_what_a_heap_tells.Holds := by
  w_on; o_law; k_head; (case hw => w_witness2)
  k_fill
  refine Gen.walk (l := PySem.Challenge.rw_citeward_k40_what_a_heap_tells) (tq := 30) (c0 := 32) rfl rfl (fun w h Y => ⟨PySem.W.km_in_of Y, PySem.W.km_tabs_of Y 30 (by simp)⟩) (fun _ => by kernel_rfl) (fun _ => by kernel_rfl) ?F My.law_true
  case F =>
    intro w mg fa h KX G hmg
    refine' Gen.Zt3 KX G hmg ?hct ?ax0 ?Fx0 ?kx0 ?ax1 ?Fx1 ?kx1 ?ax2 ?Fx2 ?kx2 ?ax3 ?Fx3 ?kx3 ?ax4 ?Fx4 ?kx4 ?ax5 ?Fx5 ?kx5 ?ax6 ?Fx6 ?kx6 ?ax7 ?Fx7 ?kx7 ?ax8 ?lx8 ?cx8 ?kx8 ?zbool ?zenumerate ?zint ?zisinstance ?zlen ?zlist ?zmin ?zrange ?zsorted ?zstr
    (case ax0 => k_is)
    (case Fx0 => exact ⟨_, L2.Zcw (by k_is) (by k_is) (by k_is)⟩)
    (case kx0 => k_is)
    (case ax1 => k_is)
    (case Fx1 => exact ⟨_, L2.Zcw (by k_is) (by k_is) (by k_is)⟩)
    (case kx1 => k_is)
    (case ax2 => k_is)
    (case Fx2 => exact ⟨_, L2.Zcw (by k_is) (by k_is) (by k_is)⟩)
    (case kx2 => k_is)
    (case ax3 => k_is)
    (case Fx3 => exact ⟨_, L2.Zcw (by k_is) (by k_is) (by k_is)⟩)
    (case kx3 => k_is)
    (case ax4 => k_is)
    (case Fx4 => exact ⟨_, TX.funC_mk (by k_is) (by k_is) (by k_is)⟩)
    (case kx4 => k_is)
    (case ax5 => k_is)
    (case Fx5 => exact ⟨_, L2.Zcw (by k_is) (by k_is) (by k_is)⟩)
    (case kx5 => k_is)
    (case ax6 => k_is)
    (case Fx6 => exact ⟨_, L2.Zcw (by k_is) (by k_is) (by k_is)⟩)
    (case kx6 => k_is)
    (case ax7 => k_is)
    (case Fx7 => exact ⟨_, L2.Zcw (by k_is) (by k_is) (by k_is)⟩)
    (case kx7 => k_is)
    (case ax8 => k_is)
    (case lx8 => k_is)
    (case cx8 => k_is)
    (case kx8 => k_is)
    (case zbool => k_is)
    (case zenumerate => k_is)
    (case zint => k_is)
    (case zisinstance => k_is)
    (case zlen => k_is)
    (case zlist => k_is)
    (case zmin => k_is)
    (case zrange => k_is)
    (case zsorted => k_is)
    (case zstr => k_is)
    (case hct => kernel_rfl)
