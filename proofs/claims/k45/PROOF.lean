import PyProof.Rows.All
import Wide.All
import OpenK.AllK
import Wide.FinOn
import Lean
import PyProof.EqAt
import PyProof.EqKinds
import PyProof.TupleCall
import PyProof.NeKinds
import PyProof.EnumMake
import PyProof.ConsumeWalk
import PyProof.StrWalks
import PyProof.WalksMore
import PyProof.StrLawsNeg
import PySem.Challenge.RW_citeward_k45_whole_works_put_in_one_by_o
set_option Elab.async false
set_option linter.all false
set_option genSizeOf false
set_option genSizeOfSpec false
set_option maxRecDepth 100000
set_option maxHeartbeats 4000000
namespace L2
open PySem PySem.Spec PyProof.Rows
noncomputable abbrev Key:=Sum Int Str
noncomputable def Zd3:Key→Value→Bool
 | .inl k,v=>Value.isInt k v
 | .inr x,v=>Value.isStrOf x v
noncomputable def keyH(w:World):Key→Int
 | .inl k=>hashInt k
 | .inr x=>hashStr w x
theorem Zp:∀{k:Key} {v:Value},Zd3 k v=true→(∃i t,k=Sum.inl i∧v=Value.int i t)∨(∃x t,k=Sum.inr x∧v=Value.str x t)
 | .inl i,v,h=>by
  obtain⟨t,e⟩:=Value.isInt_shape (k:=i) (v:=v) h
  exact .inl ⟨i,t,rfl,e⟩
 | .inr x,v,h=>by
  obtain⟨t,e⟩:=Value.isStrOf_shape (x:=x) (v:=v) h
  exact .inr ⟨x,t,rfl,e⟩
theorem Zk3(i:Int)(t:Tok):Zd3 (.inl i) (.int i t)=true:=by simp[Zd3,Value.isInt]
theorem Zk4(x:Str)(t:Tok):Zd3 (.inr x) (.str x t)=true:=by simp[Zd3,Value.isStrOf]
theorem Ztk(a b:Int):decide ((Sum.inl a:Key)=Sum.inl b)=(a==b):=by
 by_cases e:a=b
 ·subst e;simp
 ·have h:¬(Sum.inl a:Key)=Sum.inl b:=fun q=>e (Sum.inl.inj q)
  rw[decide_eq_false h]
  exact(beq_eq_false_iff_ne.mpr e).symm
theorem Ztl(a b:Str):decide ((Sum.inr a:Key)=Sum.inr b)=decide (a=b):=by
 by_cases e:a=b
 ·subst e;simp
 ·have h:¬(Sum.inr a:Key)=Sum.inr b:=fun q=>e (Sum.inr.inj q)
  rw[decide_eq_false h,decide_eq_false e]
theorem Ztm(a:Int)(b:Str):decide ((Sum.inl a:Key)=Sum.inr b)=false:=decide_eq_false (fun q=>nomatch q)
theorem Ztn(a:Str)(b:Int):decide ((Sum.inr a:Key)=Sum.inl b)=false:=decide_eq_false (fun q=>nomatch q)
noncomputable def Zo(prog:Program)(w:World):PySem.KeyKind prog w Key where
 is:=Zd3
 hash:=keyH w
 inj:=fun v a b ha hb=>by
  rcases Zp ha with⟨i,t,rfl,rfl⟩|⟨x,t,rfl,rfl⟩
  ·rcases Zp hb with⟨j,u,rfl,e⟩|⟨y,u,rfl,e⟩
   ·injection e with e1 _;rw[e1]
   ·exact nomatch e
  ·rcases Zp hb with⟨j,u,rfl,e⟩|⟨y,u,rfl,e⟩
   ·exact nomatch e
   ·injection e with e1 _;rw[e1]
 byValue:=fun k v h=>by
  rcases Zp h with⟨i,t,rfl,rfl⟩|⟨x,t,rfl,rfl⟩<;> rfl
 pyHash:=fun hv h=>by
  rcases Zp hv with⟨i,t,rfl,rfl⟩|⟨x,t,rfl,rfl⟩
  ·exact wpAny_pyHash_int h
  ·exact wpAny_pyHash_str h
 eqBool:=fun hu hv h=>by
  rcases Zp hu with⟨i,t,rfl,rfl⟩|⟨x,t,rfl,rfl⟩
  ·rcases Zp hv with⟨j,u,rfl,rfl⟩|⟨y,u,rfl,rfl⟩
   ·rw[Ztk]at h;exact wpAny_eqBool_int h
   ·rw[Ztm]at h;exact SeqAt.EqAt.int_str i t y u _ _ _ _ h
  ·rcases Zp hv with⟨j,u,rfl,rfl⟩|⟨y,u,rfl,rfl⟩
   ·rw[Ztn]at h;exact SeqAt.EqAt.str_int x t j u _ _ _ _ h
   ·rw[Ztl]at h;exact wpAny_eqBool_str h
 «strs»:=fun k x t v h=>by
  rcases Zp h with⟨i,u,rfl,e⟩|⟨y,u,rfl,e⟩
  ·exact nomatch e
  ·injection e with e1 _
   subst e1
   cases v<;> rfl
theorem Ztg(prog:Program)(w:World)(k:Key)(v:Value):(Zo prog w).is k v=Zd3 k v:=rfl
theorem Zhy(prog:Program)(w:World)(i:Int)(t:Tok):(Zo prog w).is (.inl i) (.int i t)=true:=Zk3 i t
theorem Zhz(prog:Program)(w:World)(x:Str)(t:Tok):(Zo prog w).is (.inr x) (.str x t)=true:=Zk4 x t
end L2
namespace L2
open PySem PySem.Spec PyProof.Rows
inductive V where
 |non|bl (b:Bool)|int (i:Int)|str (x:Str)|byt (b:Array UInt8)|flt (b:UInt64)|ref (a:Addr)|ty (n:String)
 deriving DecidableEq
noncomputable def RelV:V→Value→Prop
 | .non,u=>u=Value.none
 | .bl b,u=>u=Value.bool b
 | .int i,u=>∃t,u=Value.int i t
 | .str x,u=>∃t,u=Value.str x t
 | .byt b,u=>∃t,u=Value.bytes b t
 | .flt b,u=>∃t,u=Value.float b t
 | .ref a,u=>u=Value.ref a
 | .ty n,u=>u=Value.type n
noncomputable abbrev Vals:List V→List Value→Prop:=Paired RelV
theorem Vals.length{xs:List V}{us:List Value}(r:Vals xs us):xs.length=us.length:=Paired.length r
theorem Vals.get:∀{xs:List V} {us:List Value} {i:Nat} {x:V},Vals xs us→xs[i]? =some x→∃u,us[i]? =some u∧RelV x u
 |_,_,_,_,.nil,e=>by simp at e
 |_,_,0,_,.cons r _,e=>by simp at e;subst e;exact⟨_,rfl,r⟩
 |_,_,i+1,x,.cons _ t,e=>by
  obtain⟨u,h1,h2⟩:=Vals.get (i:=i) (x:=x) t (by simpa using e)
  exact⟨u,by simpa using h1,h2⟩
theorem Vals.set{x:V}{u:Value}(r:RelV x u):∀{xs:List V} {us:List Value} (i:Nat),Vals xs us→Vals (xs.set i x) (us.set i u)
 |_,_,_,.nil=>.nil
 |_,_,0,.cons _ t=>.cons r t
 |_,_,i+1,.cons q t=>.cons q (Vals.set r i t)
theorem Vals.append:∀{xs ys:List V} {us ws:List Value},Vals xs us→Vals ys ws→Vals (xs++ys) (us++ws)
 |_,_,_,_,.nil,s=>s
 |_,_,_,_,.cons r t,s=>.cons r (Vals.append t s)
theorem Vals.take:∀{xs:List V} {us:List Value} (n:Nat),Vals xs us→Vals (xs.take n) (us.take n)
 |_,_,0,_=>.nil
 |_,_,_+1,.nil=>.nil
 |_,_,n+1,.cons r t=>.cons r (Vals.take n t)
theorem Vals.drop:∀{xs:List V} {us:List Value} (n:Nat),Vals xs us→Vals (xs.drop n) (us.drop n)
 |_,_,0,r=>r
 |_,_,_+1,.nil=>.nil
 |_,_,n+1,.cons _ t=>Vals.drop n t
noncomputable def RelO:Option V→Option Value→Prop
 |some v,some u=>RelV v u
 |none,none=>True
 |_,_=>False
noncomputable def KV{κ:Type}:List (κ×V)→List (κ×Value)→Prop:=Paired fun(p:κ×V) (q:κ×Value)=>p.1=q.1∧RelV p.2 q.2
noncomputable def kV:Key→V
 | .inl i=>.int i
 | .inr x=>.str x
inductive HO where
 |lst (xs:List V)
 |tup (xs:List V)
 |dK (kvs:List (Key×V)) (ep:Nat)|dT (kvs:List (List Key×V)) (ep:Nat) (bs:List Addr)
 |set (S:Int→Bool) (n:Nat)
 |ins (C dx:Addr) (fs:List (Str×V))
 |own (x:Addr)
 |xd (fs:List (Str×V))
 |met (f x:Addr)
 |rng (lo hi:Int)
 |frz (o:Obj) (u:HO)
 |tbl (ps:Array Value)
 |ext (φ:Heap→Prop)
noncomputable abbrev Hp:=Addr→Option HO
noncomputable def upd(H:Hp)(a:Addr)(o:HO):Hp:=fun b=>if b=a then some o else H b
theorem Z9{H:Hp}{a:Addr}{o:HO}:upd H a o a=some o:=by unfold upd;rw[if_pos rfl]
theorem Zs{H:Hp}{a b:Addr}{o:HO}(h:b≠a):upd H a o b=H b:=by unfold upd;rw[if_neg h]
theorem Zj8{H:Hp}{a b:Addr}{o u:HO}(h:H a=some o)(h':H b=some u)(d:o≠u):a≠b:=by
 intro e;subst e;rw[h]at h';exact d (Option.some.inj h')
theorem Z4{H:Hp}{a b:Addr}{o:HO}(h:H a=some o)(h':H b=none):a≠b:=by
 intro e;subst e;rw[h]at h';cases h'
section
variable(P:Program)(w:World)
noncomputable def Zba(H:Hp)(h:Heap)(a:Addr):HO→Prop
 | .lst xs=>xs.length≤sizeLine∧∃(its:List Value) (n:Nat),Vals xs its∧h.get? a=some {cls:=.type "list",data:=.seq its.toArray n}
 | .tup xs=>xs.length≤sizeLine∧∃its:List Value,Vals xs its∧IsTup h a its.toArray
 | .dK kvs ep=>kvs.length≤sizeLine∧(a==sysModules)=false∧∃vs,KV kvs vs∧h.DictAt (Zo P w) a vs ep
 | .dT kvs ep bs=>kvs.length≤sizeLine∧(a==sysModules)=false∧∃xs:List (List Key×Addr×Value),
   Paired (fun(p:List Key×V) (q:List Key×Addr×Value)=>p.1=q.1∧H q.2.1=some (.tup (p.1.map kV))∧RelV p.2 q.2.2) kvs xs∧
   ∃o es,h.get? a=some o∧o.ExactDict∧o.data= .dict es ep∧es.toList=xs.map (entryOfKey (tupleKind (Zo P w)))∧(xs.map (·.1)).Nodup∧(xs.map fun x=>x.2.1)=bs
 | .set S n=>h.SetOf (intKind P w) a S n
 | .ins C dx fs=>H dx=some (.own a)∧fs.length≤1000∧dx≠a∧h.get? a=some (PySem.W.instObj C dx)∧
   ∃mA,h.Ns1 dx mA∧(∀f,RelO (fs.lookup f) (mA f))∧PySem.Within mA (fs.map (·.1))
 | .own _=>∃o,h.get? a=some o
 | .xd fs=>∃mA,h.Ns1 a mA∧∀f,RelO (fs.lookup f) (mA f)
 | .rng lo hi=>∃t u v,h.get? a=some {cls:=.type "range",data:=.fields #[.int lo t,.int hi u,.int 1 v]}
 | .frz o u=>h.get? a=some o∧Zba H h a u
 | .tbl ps=>h.get? a=some {cls:=.none,data:=.fields ps}
 | .met f x=>h.get? a=some (PySem.W.methodObj (.ref f) (.ref x))
 | .ext φ=>φ h∧(∃o,h.get? a=some o)∧∀h1 h2:Heap,φ h1→(∀o,h1.get? a=some o→h2.get? a=some o)→φ h2
noncomputable def HOk(H:Hp)(h:Heap):Prop:=∀a o,H a=some o→Zba P w H h a o
end
section
variable{P:Program}{w:World}{H H':Hp}{h h':Heap}{a:Addr}{o:HO}
theorem Zba.lt(x:Zba P w H h a o):a<h.objs.size:=by
 cases o with
 |lst xs=>obtain⟨_,_,_,_,e⟩:=x;exact Heap.lt_size e
 |tup xs=>obtain⟨_,_,_,p⟩:=x;exact p.lt
 |dK kvs ep=>obtain⟨_,_,_,_,o,_,e,_⟩:=x;exact Heap.lt_size e
 |dT kvs ep bs=>obtain⟨_,_,_,_,o,_,e,_⟩:=x;exact Heap.lt_size e
 |set S n=>obtain⟨o,_,_,_,e,_⟩:=x;exact Heap.lt_size e
 |ins C dx fs=>obtain⟨_,_,_,e,_⟩:=x;exact Heap.lt_size e
 |own y=>obtain⟨_,e⟩:=x;exact Heap.lt_size e
 |xd fs=>obtain⟨_,⟨_,_,_,e,_⟩,_⟩:=x;exact Heap.lt_size e
 |rng lo hi=>obtain⟨_,_,_,e⟩:=x;exact Heap.lt_size e
 |frz ob u=>obtain⟨e,_⟩:=x;exact Heap.lt_size e
 |tbl ps=>exact Heap.lt_size (show h.get? a=some _ from x)
 |met f y=>exact Heap.lt_size (show h.get? a=some _ from x)
 |ext φ=>obtain⟨_,⟨_,e⟩,_⟩:=x;exact Heap.lt_size e
theorem Paired.mapP{α β:Type}{F G:α→β→Prop}{l₁:List α}{l₂:List β}(h:Paired F l₁ l₂)(f:∀a b,F a b→G a b):Paired G l₁ l₂:=by
 induction h with
 |nil=>exact .nil
 |cons r _ ih=>exact .cons (f _ _ r) ih
theorem Zba.stay(x:Zba P w H h a o)(k:∀b u,(b=a∨H b=some (.own a))→h.get? b=some u→h'.get? b=some u)
  (ho:∀b,H b=some (.own a)→H' b=some (.own a)) (ht:∀b xs,H b=some (.tup xs)→H' b=some (.tup xs)):Zba P w H' h' a o:=by
 induction o with
 |lst xs=>obtain⟨z,its,n,r,e⟩:=x;exact⟨z,its,n,r,k _ _ (.inl rfl) e⟩
 |tup xs=>obtain⟨z,its,r,ob,e,c⟩:=x;exact⟨z,its,r,ob,k _ _ (.inl rfl) e,c⟩
 |dK kvs ep=>obtain⟨z,y,vs,r,ob,es,e,c⟩:=x;exact⟨z,y,vs,r,ob,es,k _ _ (.inl rfl) e,c⟩
 |dT kvs ep bs=>
  obtain⟨z,y,xs,r,ob,es,e,c⟩:=x
  exact⟨z,y,xs,Paired.mapP r fun p q z=>⟨z.1,ht _ _ z.2.1,z.2.2⟩,ob,es,k _ _ (.inl rfl) e,c⟩
 |set S n=>obtain⟨ob,es,ep,t,e,c⟩:=x;exact⟨ob,es,ep,t,k _ _ (.inl rfl) e,c⟩
 |ins C dx fs=>
  obtain⟨d,z,ne,e,mA,⟨od,es,ep,e2,c⟩,r⟩:=x
  exact⟨ho _ d,z,ne,k _ _ (.inl rfl) e,mA,⟨od,es,ep,k _ _ (.inr d) e2,c⟩,r⟩
 |own y=>obtain⟨ob,e⟩:=x;exact⟨ob,k _ _ (.inl rfl) e⟩
 |xd fs=>obtain⟨mA,⟨od,es,ep,e,c⟩,r⟩:=x;exact⟨mA,⟨od,es,ep,k _ _ (.inl rfl) e,c⟩,r⟩
 |rng lo hi=>obtain⟨t,u,v,e⟩:=x;exact⟨t,u,v,k _ _ (.inl rfl) e⟩
 |frz ob u ih=>obtain⟨e,q⟩:=x;exact⟨k _ _ (.inl rfl) e,ih q⟩
 |tbl ps=>
  have e:h.get? a=some {cls:=.none,data:=.fields ps}:=x
  show h'.get? a=some {cls:=.none,data:=.fields ps}
  exact k a _ (.inl rfl) e
 |met f y=>
  have e:h.get? a=some (PySem.W.methodObj (.ref f) (.ref y)):=x
  show h'.get? a=some (PySem.W.methodObj (.ref f) (.ref y))
  exact k a _ (.inl rfl) e
 |ext φ=>obtain⟨p,⟨o,e⟩,st⟩:=x;exact⟨st _ _ p fun o q=>k _ _ (.inl rfl) q,⟨o,k _ _ (.inl rfl) e⟩,st⟩
theorem HOk.lt(x:HOk P w H h)(e:H a=some o):a<h.objs.size:=(x a o e).lt
theorem HOk.fresh(x:HOk P w H h)(e:h.objs.size≤a):H a=none:=by
 cases q:H a with
 |none=>rfl
 |some u=>exact absurd (Nat.lt_of_lt_of_le (x.lt q) e) (Nat.lt_irrefl _)
theorem HOk.kept(x:HOk P w H h)(k:∀b u,h.get? b=some u→h'.get? b=some u):HOk P w H h':=fun a o e=>
 (x a o e).stay (fun b u _ q=>k b u q) (fun _ q=>q) fun _ _ q=>q
theorem HOk.laid(x:HOk P w H h)(k:∀b u,h.get? b=some u→h'.get? b=some u)(hp:h.objs.size≤a)(new:Zba P w (upd H a o) h' a o):HOk P w (upd H a o) h':=fun b u e=>by
 have hn:=x.fresh hp
 by_cases hb:b=a
 ·subst hb;rw[Z9]at e;cases e;exact new
 ·rw[Zs hb]at e
  exact(x b u e).stay (fun c v _ q=>k c v q) (fun c q=>by rw[Zs (Z4 q hn)];exact q) fun c xs q=>by rw[Zs (Z4 q hn)];exact q
end
noncomputable def Rd(H:Hp)(a:Addr)(u:HO):Prop:=H a=some u∨∃o,H a=some (.frz o u)
theorem Rd.ok{P:Program}{w:World}{H:Hp}{h:Heap}{a:Addr}{u:HO}(r:Rd H a u)(x:HOk P w H h):Zba P w H h a u:=by
 rcases r with r|⟨o,r⟩
 ·exact x a u r
 ·obtain⟨_,q⟩:=x a _ r
  exact q
noncomputable def HK(H:Hp)(a:Addr)(kvs:List (Key×V)):Prop:=∃ep,H a=some (.dK kvs ep)
noncomputable def HTt(H:Hp)(a:Addr)(kvs:List (List Key×V)):Prop:=∃ep bs,H a=some (.dT kvs ep bs)
noncomputable def RdK(H:Hp)(a:Addr)(kvs:List (Key×V)):Prop:=∃ep,Rd H a (.dK kvs ep)
noncomputable def RdT(H:Hp)(a:Addr)(kvs:List (List Key×V)):Prop:=∃ep bs,Rd H a (.dT kvs ep bs)
theorem HK.rd{H:Hp}{a:Addr}{kvs:List (Key×V)}(h:HK H a kvs):RdK H a kvs:=let⟨ep,h⟩:=h;⟨ep,.inl h⟩
noncomputable def putB(kvs:List (List Key×V))(bs:List Addr)(k:List Key)(b:Addr):List Addr:=if(kvs.any fun kv=>decide (kv.1=k))=true then bs else bs++[b]
theorem HTt.rd{H:Hp}{a:Addr}{kvs:List (List Key×V)}(h:HTt H a kvs):RdT H a kvs:=let⟨ep,bs,h⟩:=h;⟨ep,bs,.inl h⟩
noncomputable def Mut:Option HO→Prop
 |some (.lst _)=>True
 |some (.dK _ _)=>True
 |some (.dT _ _ _)=>True
 |some (.set _ _)=>True
 |some (.ins _ _ _)=>True
 |some (.ext _)=>True
 |_=>False
section
variable{P:Program}{w:World}{H:Hp}{h h':Heap}{x e:Addr}{o':HO}
theorem HOk.write(ok:HOk P w H h)(mu:Mut (H x))(he:e=x∨H e=some (.own x))(k:∀b u,b≠e→h.get? b=some u→h'.get? b=some u)(heo:∃u,h'.get? e=some u)
  (new:Zba P w (upd H x o') h' x o'):HOk P w (upd H x o') h':=fun b u q=>by
 have nown:∀c y,H c=some (.own y)→c≠x:=fun c y r z=>by subst z;rw[r]at mu;exact mu
 have ntup:∀c xs,H c=some (.tup xs)→c≠x:=fun c xs r z=>by subst z;rw[r]at mu;exact mu
 by_cases hb:b=x
 ·subst hb;rw[Z9]at q;cases q;exact new
 ·rw[Zs hb]at q
  by_cases hbe:b=e
  ·have q':H b=some (.own x):=by
    rcases he with z|z
    ·exact absurd (hbe.trans z) hb
    ·rw[hbe];exact z
   rw[q]at q';cases q'
   obtain⟨v,hv⟩:=heo
   exact⟨v,by rw[hbe];exact hv⟩
  ·refine(ok b u q).stay (fun c v hc r=>k c v ?_ r) (fun c r=>by rw[Zs (nown c b r)];exact r) fun c xs r=>by rw[Zs (ntup c xs r)];exact r
   rcases hc with rfl|hc
   ·exact hbe
   ·rintro rfl
    rcases he with z|z
    ·exact nown c b hc z
    ·rw[hc]at z;cases z;exact hb rfl
end
structure Un(fs ex:List Addr)(H H':Hp)(h h':Heap):Prop where
 keep:∀b o,h.get? b=some o→H b=none→b∉fs→b∉ex→h'.get? b=some o
 slot:∀b o,h.get? b=some o→H b=none→b∈fs→b∉ex→∃sl,h'.get? b=some {o with slots:=sl}
 free:∀b o,h.get? b=some o→H b=none→b∉ex→H' b=none
 there:∀b o,h.get? b=some o→b∉ex→∃o',h'.get? b=some o'
 tups:∀b xs,H b=some (.tup xs)→H' b=some (.tup xs)
 frzs:∀b o u,H b=some (.frz o u)→H' b=some (.frz o u)
 tbls:∀b ps,H b=some (.tbl ps)→∃more,H' b=some (.tbl (ps++more))
section
variable{fs fs' ex ex':List Addr}{H H1 H2:Hp}{h h1 h2 h':Heap}{a x e:Addr}{o:HO}
theorem Un.any(u:Un fs ex H H1 h h1){b:Addr}{ob:Obj}(q:h.get? b=some ob)(n:H b=none)(hx:b∉ex):∃sl,h1.get? b=some {ob with slots:=sl}:=by
 by_cases hb:b∈fs
 ·exact u.slot b ob q n hb hx
 ·exact⟨ob.slots,u.keep b ob q n hb hx⟩
theorem Un.kept(k:∀b u,h.get? b=some u→h'.get? b=some u):Un fs ex H H h h':=
 ⟨fun b ob q _ _ _=>k b ob q,fun b ob q _ _ _=>⟨ob.slots,k b ob q⟩,fun _ _ _ n _=>n,fun b ob q _=>⟨ob,k b ob q⟩,fun _ _ q=>q,fun _ _ _ q=>q,fun _ ps q=>⟨#[],by rw[q];simp⟩⟩
theorem Un.refl:Un fs ex H H h h:=Un.kept fun _ _ q=>q
theorem Un.laid(k:∀b u,h.get? b=some u→h'.get? b=some u)(hp:h.objs.size≤a)(hn:H a=none):Un fs ex H (upd H a o) h h' where
 keep:=fun b u q _ _ _=>k b u q
 slot:=fun b u q _ _ _=>⟨u.slots,k b u q⟩
 free:=fun b u q n _=>by rw[Zs (Nat.ne_of_lt (Nat.lt_of_lt_of_le (Heap.lt_size q) hp))];exact n
 there:=fun b u q _=>⟨u,k b u q⟩
 tups:=fun b xs q=>by rw[Zs (Z4 q hn)];exact q
 frzs:=fun b u xs q=>by rw[Zs (Z4 q hn)];exact q
 tbls:=fun b ps q=>⟨#[],by rw[Zs (Z4 q hn),q];simp⟩
theorem Un.write(mu:Mut (H x))(he:e=x∨H e=some (.own x))(k:∀b u,b≠e→h.get? b=some u→h'.get? b=some u)(heo:∃u,h'.get? e=some u):Un fs ex H (upd H x o) h h':=by
 have hx:∀b,H b=none→b≠x:=fun b n z=>by subst z;rw[n]at mu;exact mu
 have hb:∀b,H b=none→b≠e:=fun b n z=>by
  subst z
  rcases he with r|r
  ·exact hx b n r
  ·rw[n]at r;cases r
 have hm:∀b u,H b=some u→¬Mut (some u)→b≠x:=fun b u q nm z=>by subst z;rw[q]at mu;exact nm mu
 refine⟨fun b u q n _ _=>k b u (hb b n) q,fun b u q n _ _=>⟨u.slots,k b u (hb b n) q⟩,fun b u q n _=>by rw[Zs (hx b n)];exact n,fun b u q _=>?_,
  fun b xs q=>by rw[Zs (hm b _ q fun z=>z)];exact q,fun b u xs q=>by rw[Zs (hm b _ q fun z=>z)];exact q,fun b ps q=>⟨#[],by rw[Zs (hm b _ q fun z=>z),q];simp⟩⟩
 by_cases hbe:b=e
 ·subst hbe;exact heo
 ·exact⟨u,k b u hbe q⟩
end
noncomputable def trk(h:Heap)(H:Hp):List Addr:=(List.range h.objs.size).filter fun a=>(H a).isSome
noncomputable def hidT(h:Heap)(H:Hp):Heap:=PySem.W.hideAll h (trk h H)
theorem Zk5(h:Heap)(H:Hp):(hidT h H).objs.size=h.objs.size:=PySem.W.hideAll_size _ _
theorem Znt{h:Heap}{H:Hp}{b:Addr}{o:Obj}(e:h.get? b=some o)(n:H b=none):(hidT h H).get? b=some o:=
 PySem.W.hideAll_get _ e fun hm=>by
  have q:(H b).isSome=true:=(List.mem_filter.mp hm).2
  rw[n]at q;simp at q
theorem Zqr{h:Heap}{H:Hp}{b:Addr}{o:Obj}(e:(hidT h H).get? b=some o):h.get? b=some o∧H b=none:=by
 have e':h.get? b=some o:=PySem.W.of_hideAll (trk h H) e
 refine⟨e',?_⟩
 cases q:H b with
 |none=>rfl
 |some x=>
  have hm:b∈trk h H:=List.mem_filter.mpr ⟨List.mem_range.mpr (Heap.lt_size e'),by simp[q]⟩
  have z:(hidT h H).get? b=none:=PySem.W.hideAll_none (trk h H) hm
  rw[z]at e;cases e
noncomputable def Zqs(g h:Heap)(L:Addr):List (Addr×Obj):=(List.range h.objs.size).filterMap fun a=>if a=L∨(g.get? a).isSome=true then none else(h.get? a).map fun o=>(a,o)
noncomputable def rest(g h:Heap)(L d:Addr):List (Addr×Obj):=(Zqs g h L).filter fun p=>decide (p.1≠d)
end L2
namespace L2
open PySem PySem.Spec PyProof.Rows
structure Mod(K:PySem.W.Frag)(mg:Str→Option Value)(base:Heap):Prop where
 kin:K.In base
 glob:base.Ns mainGlobals mg
 blt:∃mb,base.Ns builtinsNs mb∧∀x:Str,x≠"__name__"→mb x=bootBuiltins x
 nolimit:base.NoLimit
set_option genInjectivity false in
structure Cx where
 prog:Program
 w:World
 K:PySem.W.Frag
 mg:Str→Option Value
 base:Heap
 A:Around
 N:List Str
 s₀:Shared
 H₀:Hp
 env:Env
 outer:List Env
 stack:List Env
 ex:List Addr
 fn:Str→Bool
 calm:Bool
 pn:List (Addr×Obj)
 xe:Value→Shared→Prop
noncomputable def frs(l:List Env):List Addr:=l.filterMap (·.frame)
noncomputable abbrev Cx.fs(X:Cx):List Addr:=frs X.outer
noncomputable def Vis(sc:Scope)(x:Str):Prop:=sc.names.lookup x=some .local∨sc.names.lookup x=some .cell∨sc.names.lookup x=some .free
noncomputable def Loc(sc:Scope)(x:Str):Prop:=sc.names.lookup x=some .local∨sc.names.lookup x=some .cell
noncomputable def Look(env:Env)(h:Heap)(m:Str→Option Value)(x:Str)(u:Value):Prop:=
 (env.kindOf x=some .local∧m x=some u)∨((env.kindOf x=some .cell∨env.kindOf x=some .free)∧∃c,env.cells.lookup x=some c∧h.IsCell c (some u))
set_option genInjectivity false in
structure Cx.Ok(X:Cx):Prop where
 mod:Mod X.K X.mg X.base
 kind:X.env.scope.kind= .function
 glob:X.env.globals=mainGlobals
 blt:X.env.builtins=builtinsNs
 above:X.s₀.heap.objs.size≤X.env.locals
 inj:∀x y c,X.env.cells.lookup x=some c→X.env.cells.lookup y=some c→x=y
 has:∀x,(X.env.kindOf x=some .cell∨X.env.kindOf x=some .free)→∃c,X.env.cells.lookup x=some c
 cab:∀x c,X.fn x=true→X.env.cells.lookup x=some c→X.s₀.heap.objs.size≤c
 hd:X.calm=true→X.A.handled=none
 frames:X.A.frames=some X.stack
 stk:X.stack=X.outer∨(X.stack=X.env::X.outer∧X.env.frame=some X.env.locals)
 exf:∀b∈X.ex,b≠X.env.locals∧∀x c,X.env.cells.lookup x=some c→c≠b
 bs:∀b o,X.base.get? b=some o→X.s₀.heap.get? b=some o∧X.H₀ b=none
 bsz:X.base.objs.size≤X.s₀.heap.objs.size
 noex:∀b o,X.base.get? b=some o→b∉X.ex
 exfs:∀b∈X.ex,b∉X.fs
 funs:X.s₀.heap.FunFrames X.base X.outer
 frf:∀b∈X.fs,X.H₀ b=none
structure Inv(X:Cx)(pins:List (Addr×Obj))(σ:List (Option V))(H:Hp)(s:Shared):Prop where
 ok:X.Ok
 os:s.os=X.s₀.os
 bare:AllBare s.gens
 base:Un X.fs X.ex X.H₀ H X.s₀.heap s.heap
 loc:∃m,s.heap.Ns X.env.locals m∧∀(i:Nat) (x:Str) (v:V),X.N[i]? =some x→σ[i]? =some (some v)→Vis X.env.scope x→∃u,RelV v u∧Look X.env s.heap m x u
 cell:∀x c,X.env.cells.lookup x=some c→∃v,s.heap.IsCell c v
 free:H X.env.locals=none
 freeC:∀x c,X.env.cells.lookup x=some c→H c=none
 pin:∀p∈X.pn++pins,s.heap.get? p.1=some p.2∧H p.1=none∧p.1≠X.env.locals∧p.1∉X.fs∧∀v,p.2.data≠.cell v
 hok:HOk X.prog X.w H s.heap
 len:σ.length=X.N.length
section
variable{X:Cx}{pins:List (Addr×Obj)}{σ:List (Option V)}{H H':Hp}{s:Shared}{h':Heap}
theorem Cx.Ok.nofr(ok:X.Ok){b:Addr}{o:Obj}(e:X.base.get? b=some o):b∉X.fs:=fun hb=>by
 have:=(ok.funs.mem hb).1
 rw[e]at this;cases this
theorem Inv.bs(I:Inv X pins σ H s):∀b o,X.base.get? b=some o→s.heap.get? b=some o∧H b=none:=fun b o e=>
 ⟨I.base.keep b o (I.ok.bs b o e).1 (I.ok.bs b o e).2 (I.ok.nofr e) (I.ok.noex b o e),I.base.free b o (I.ok.bs b o e).1 (I.ok.bs b o e).2 (I.ok.noex b o e)⟩
theorem Inv.bk(I:Inv X pins σ H s):∀b o,X.base.get? b=some o→s.heap.get? b=some o:=fun b o e=>(I.bs b o e).1
theorem Inv.mod(I:Inv X pins σ H s):Mod X.K X.mg X.base:=I.ok.mod
theorem Inv.kIn(I:Inv X pins σ H s):X.K.In s.heap:=I.ok.mod.kin.keeps I.bk
theorem Inv.lt(I:Inv X pins σ H s):X.env.locals<s.heap.objs.size:=let⟨_,hn,_⟩:=I.loc;hn.lt
theorem Inv.sz(I:Inv X pins σ H s):X.s₀.heap.objs.size≤s.heap.objs.size:=Nat.le_trans I.ok.above (Nat.le_of_lt I.lt)
theorem Inv.nofs(I:Inv X pins σ H s){a:Addr}(h:s.heap.objs.size≤a):a∉X.fs:=fun hb=>by
 obtain⟨_,o,ho,_⟩:=I.ok.funs.mem hb
 exact absurd (Nat.lt_of_lt_of_le (Heap.lt_size ho) (Nat.le_trans I.sz h)) (Nat.lt_irrefl _)
theorem Inv.cne(I:Inv X pins σ H s):∀x c,X.env.cells.lookup x=some c→c≠X.env.locals:=fun x c e z=>by
 obtain⟨v,o,ho,hd⟩:=I.cell x c e
 obtain⟨m,⟨o',es,ep,ho',hd',_⟩,_⟩:=I.loc
 rw[z,ho']at ho;cases ho;rw[hd']at hd;cases hd
theorem Inv.funs(I:Inv X pins σ H s):s.heap.FunFrames X.base X.outer:=by
 have all:∀(l:List Env),(∀b∈frs l,b∈X.fs)→X.s₀.heap.FunFrames X.base l→s.heap.FunFrames X.base l:=by
  intro l
  induction l with
  |nil=>intro _ _;trivial
  |cons env r ih=>
   intro hs hl
   obtain⟨hk,⟨L,o,hf,hn,ho,hd⟩,hr⟩:=hl
   have hL:L∈X.fs:=hs L (by unfold frs;rw[List.filterMap_cons,hf];exact List.mem_cons_self)
   obtain⟨sl,e⟩:=I.base.slot L o ho (I.ok.frf L hL) hL fun z=>I.ok.exfs L z hL
   exact⟨hk,⟨L,_,hf,hn,e,hd⟩,ih (fun b hb=>hs b (by unfold frs;rw[List.filterMap_cons,hf];exact List.mem_cons_of_mem _ hb)) hr⟩
 exact all X.outer (fun _ hb=>hb) I.ok.funs
theorem Inv.stack(I:Inv X pins σ H s):s.heap.FunFrames X.base X.stack:=by
 rcases I.ok.stk with e|⟨e,hf⟩
 ·rw[e];exact I.funs
 ·rw[e]
  obtain⟨m,hn,_⟩:=I.loc
  refine .cons (by rw[I.ok.kind];decide) hf hn ?_ I.funs
  exact Heap.get?_none_of_le (Nat.le_trans I.ok.bsz I.ok.above)
theorem Inv.stkSub(I:Inv X pins σ H s):∀b∈frs X.stack,b∈X.env.locals::X.fs:=fun b hb=>by
 rcases I.ok.stk with e|⟨e,hf⟩
 ·rw[e]at hb;exact List.mem_cons_of_mem _ hb
 ·rw[e]at hb
  unfold frs at hb
  rw[List.filterMap_cons,hf]at hb
  exact hb
theorem Inv.stkFree(I:Inv X pins σ H s):∀b∈frs X.stack,H b=none:=fun b hb=>by
 rcases List.mem_cons.mp (I.stkSub b hb)with e|hb
 ·rw[e];exact I.free
 ·obtain⟨_,o,ho,_⟩:=I.ok.funs.mem hb
  exact I.base.free b o ho (I.ok.frf b hb) fun z=>I.ok.exfs b z hb
theorem Inv.step{g':Array GenState}{t':Nat}{d':Drawn}{ch:List Addr}(I:Inv X pins σ H s)
  (hch:∀b∈ch,(b∈X.ex∨X.s₀.heap.objs.size≤b)∧b≠X.env.locals∧(∀x c,X.env.cells.lookup x=some c→c≠b)∧∀p∈X.pn++pins,p.1≠b)
  (keep:∀b o,b≠X.env.locals→b∉X.fs→b∉ch→s.heap.get? b=some o→H b=none→h'.get? b=some o)
  (slot:∀b o,b≠X.env.locals→b∈X.fs→b∉ch→s.heap.get? b=some o→H b=none→∃sl,h'.get? b=some {o with slots:=sl}) (free:∀b o,b∉ch→s.heap.get? b=some o→H b=none→H' b=none)
  (there:∀b o,b∉ch→s.heap.get? b=some o→∃o',h'.get? b=some o')
  (tups:∀b xs,H b=some (.tup xs)→H' b=some (.tup xs)) (frzs:∀b o u,H b=some (.frz o u)→H' b=some (.frz o u)) (tbls:∀b ps,H b=some (.tbl ps)→∃more,H' b=some (.tbl (ps++more)))
  (ns:∀m,s.heap.Ns X.env.locals m→h'.Ns X.env.locals m) (hok:HOk X.prog X.w H' h') (hg:AllBare g'):
  Inv X pins σ H' {s with heap:=h',gens:=g',drawn:=d',toks:=t'}:=by
 have neL:∀b o,X.s₀.heap.get? b=some o→b≠X.env.locals:=fun b o e=>Nat.ne_of_lt (Nat.lt_of_lt_of_le (Heap.lt_size e) I.ok.above)
 have neC:∀b o,X.s₀.heap.get? b=some o→b∉X.ex→b∉ch:=fun b o e hx hb=>by
  rcases(hch b hb).1 with z|z
  ·exact hx z
  ·exact absurd (Nat.lt_of_lt_of_le (Heap.lt_size e) z) (Nat.lt_irrefl _)
 have cellK:∀x c,X.env.cells.lookup x=some c→∀v,s.heap.IsCell c v→h'.IsCell c v:=fun x c e v ⟨o,ho,hd⟩=>by
  have nch:c∉ch:=fun z=>(hch c z).2.2.1 x c e rfl
  by_cases hc:c∈X.fs
  ·obtain⟨sl,q⟩:=slot c o (I.cne x c e) hc nch ho (I.freeC x c e)
   exact⟨_,q,hd⟩
  ·exact⟨o,keep c o (I.cne x c e) hc nch ho (I.freeC x c e),hd⟩
 refine⟨I.ok,I.os,hg,⟨fun b o e n hb hx=>?_,fun b o e n hb hx=>?_,fun b o e n hx=>?_,fun b o e hx=>?_,fun b xs e=>tups b xs (I.base.tups b xs e),fun b o xs e=>frzs b o xs (I.base.frzs b o xs e),fun b ps e=>?_⟩,?_,fun x c e=>?_,?_,fun x c e=>?_,fun p hp=>?_,hok,I.len⟩
 ·exact keep b o (neL b o e) hb (neC b o e hx) (I.base.keep b o e n hb hx) (I.base.free b o e n hx)
 ·obtain⟨sl,e1⟩:=I.base.slot b o e n hb hx
  obtain⟨sl',e2⟩:=slot b _ (neL b o e) hb (neC b o e hx) e1 (I.base.free b o e n hx)
  exact⟨sl',e2⟩
 ·obtain⟨o',e1⟩:=I.base.there b o e hx
  exact free b o' (neC b o e hx) e1 (I.base.free b o e n hx)
 ·obtain⟨o',e1⟩:=I.base.there b o e hx
  exact there b o' (neC b o e hx) e1
 ·obtain⟨m1,e1⟩:=I.base.tbls b ps e
  obtain⟨m2,e2⟩:=tbls b _ e1
  exact⟨m1++m2,by rw[e2,Array.append_assoc]⟩
 ·obtain⟨m,hn,hl⟩:=I.loc
  refine⟨m,ns m hn,fun i x v e1 e2 e3=>?_⟩
  obtain⟨u,r,l⟩:=hl i x v e1 e2 e3
  refine⟨u,r,?_⟩
  rcases l with l|⟨k,c,e,z⟩
  ·exact .inl l
  ·exact .inr ⟨k,c,e,cellK x c e _ z⟩
 ·obtain⟨v,z⟩:=I.cell x c e
  exact⟨v,cellK x c e v z⟩
 ·obtain⟨m,⟨o,_,_,ho,_⟩,_⟩:=I.loc
  exact free _ o (fun z=>(hch _ z).2.1 rfl) ho I.free
 ·obtain⟨v,o,ho,hd⟩:=I.cell x c e
  exact free c o (fun z=>(hch c z).2.2.1 x c e rfl) ho (I.freeC x c e)
 ·obtain⟨e,n,ne,nf,d⟩:=I.pin p hp
  have nch:p.1∉ch:=fun z=>(hch p.1 z).2.2.2 p hp rfl
  exact⟨keep p.1 p.2 ne nf nch e n,free p.1 p.2 nch e n,ne,nf,d⟩
theorem Inv.un{t':Nat}(I:Inv X pins σ H s)(u:Un X.fs [] H H' s.heap h')(hok:HOk X.prog X.w H' h'):Inv X pins σ H' {s with heap:=h',toks:=t'}:=by
 obtain⟨m,⟨o,es,ep,ho,r⟩,_⟩:=id I.loc
 obtain⟨sl,hL⟩:=u.any ho I.free (by simp)
 exact I.step (g':=s.gens) (d':=s.drawn) (ch:=[]) (fun _ z=>nomatch z) (fun b o _ hb _ e n=>u.keep b o e n hb (by simp)) (fun b o _ hb _ e n=>u.slot b o e n hb (by simp)) (fun b o _ e n=>u.free b o e n (by simp)) (fun b o _ e=>u.there b o e (by simp)) u.tups u.frzs u.tbls (fun m' hm=>by
  obtain⟨o',es',ep',ho',r'⟩:=hm
  rw[ho]at ho';cases ho'
  exact⟨_,es',ep',hL,r'⟩) hok I.bare
theorem Inv.call{g':Array GenState}{t':Nat}{d':Drawn}{ch:List Addr}(I:Inv X pins σ H s)(u:Un (frs X.stack) ch H H' s.heap h')(hok:HOk X.prog X.w H' h')(hg:AllBare g')
  (hch:∀b∈ch,(b∈X.ex∨X.s₀.heap.objs.size≤b)∧b≠X.env.locals∧(∀x c,X.env.cells.lookup x=some c→c≠b)∧∀p∈X.pn++pins,p.1≠b):
  Inv X pins σ H' {s with heap:=h',gens:=g',drawn:=d',toks:=t'}:=by
 obtain⟨m,⟨o,es,ep,ho,r⟩,_⟩:=id I.loc
 obtain⟨sl,hL⟩:=u.any ho I.free fun z=>(hch _ z).2.1 rfl
 exact I.step (ch:=ch) hch (fun b o hL hb hc e n=>u.keep b o e n (fun z=>(List.mem_cons.mp (I.stkSub b z)).elim hL hb) hc) (fun b o _ _ hc e n=>u.any e n hc) (fun b o hc e n=>u.free b o e n hc) (fun b o hc e=>u.there b o e hc) u.tups u.frzs u.tbls (fun m' hm=>by
  obtain⟨o',es',ep',ho',r'⟩:=hm
  rw[ho]at ho';cases ho'
  exact⟨_,es',ep',hL,r'⟩) hok hg
theorem Inv.turned{t':Nat}{it:Addr}(I:Inv X pins σ H s)(k:∀b o,b≠it→s.heap.get? b=some o→h'.get? b=some o)(hn:H it=none)(hL:it≠X.env.locals)
  (h1:it∈X.ex∨X.s₀.heap.objs.size≤it) (h2:∀x c,X.env.cells.lookup x=some c→c≠it) (h3:∀p∈X.pn++pins,p.1≠it):Inv X pins σ H {s with heap:=h',toks:=t'}:=by
 have nit:∀b u,H b=some u→b≠it:=fun b u e z=>by rw[z,hn]at e;cases e
 refine I.step (g':=s.gens) (d':=s.drawn) (ch:=[it]) (fun b hb=>?_) (fun b o _ _ hc e _=>k b o (fun z=>hc (by simp[z])) e) (fun b o _ _ hc e _=>⟨o.slots,k b o (fun z=>hc (by simp[z])) e⟩) (fun _ _ _ _ n=>n)
  (fun b o hc e=>⟨o,k b o (fun z=>hc (by simp[z])) e⟩) (fun _ _ e=>e) (fun _ _ _ e=>e) (fun b ps e=>⟨#[],by rw[e];simp⟩) (fun m hm=>?_) (fun b u e=>?_) I.bare
 ·have e:b=it:=by simpa using hb
  subst e
  exact⟨h1,hL,h2,h3⟩
 ·obtain⟨o,es,ep,ho,r⟩:=hm
  exact⟨o,es,ep,k _ o (Ne.symm hL) ho,r⟩
 ·refine(I.hok b u e).stay (fun c v hc q=>k c v ?_ q) (fun _ q=>q) fun _ _ q=>q
  rcases hc with z|z
  ·rw[z];exact nit b u e
  ·exact nit c _ z
theorem Inv.tok(I:Inv X pins σ H s)(t:Nat):Inv X pins σ H {s with toks:=t}:=I.un (h':=s.heap) (t':=t) Un.refl I.hok
theorem Inv.kept{t':Nat}(I:Inv X pins σ H s)(k:∀b u,s.heap.get? b=some u→h'.get? b=some u):Inv X pins σ H {s with heap:=h',toks:=t'}:=I.un (Un.kept k) (I.hok.kept k)
theorem Inv.laid{a:Addr}{o:HO}{t':Nat}(I:Inv X pins σ H s)(k:∀b u,s.heap.get? b=some u→h'.get? b=some u)(hp:s.heap.objs.size≤a)(new:Zba X.prog X.w (upd H a o) h' a o):
  Inv X pins σ (upd H a o) {s with heap:=h',toks:=t'}:=I.un (Un.laid k hp (I.hok.fresh hp)) (I.hok.laid k hp new)
theorem Inv.write{x e:Addr}{o:HO}{t':Nat}(I:Inv X pins σ H s)(mu:Mut (H x))(he:e=x∨H e=some (.own x))(k:∀b u,b≠e→s.heap.get? b=some u→h'.get? b=some u)(heo:∃u,h'.get? e=some u)
  (new:Zba X.prog X.w (upd H x o) h' x o):Inv X pins σ (upd H x o) {s with heap:=h',toks:=t'}:=I.un (Un.write mu he k heo) (I.hok.write mu he k heo new)
theorem Inv.pins_of{pins':List (Addr×Obj)}(I:Inv X pins σ H s)(h:∀p∈pins',s.heap.get? p.1=some p.2∧H p.1=none∧p.1≠X.env.locals∧p.1∉X.fs∧∀v,p.2.data≠.cell v):Inv X pins' σ H s:=
 ⟨I.ok,I.os,I.bare,I.base,I.loc,I.cell,I.free,I.freeC,fun p hp=>(List.mem_append.mp hp).elim (fun z=>I.pin p (List.mem_append_left _ z)) (h p),I.hok,I.len⟩
theorem Zi0{N:List Str}(hN:N.Nodup){i j:Nat}{x:Str}(a:N[i]? =some x)(b:N[j]? =some x):i=j:=by
 obtain⟨h1,e1⟩:=List.getElem?_eq_some_iff.mp a
 obtain⟨h2,e2⟩:=List.getElem?_eq_some_iff.mp b
 exact(List.getElem_inj hN).mp (e1.trans e2.symm)
theorem Zgf{M:Model}{A:Around}{E:Value→Shared→Prop}{i:Nat}{x:Str}{v:V}{u:Value}{Q:Unit→Shared→Prop}(I:Inv X pins σ H s)(hN:X.N.Nodup)(hi:X.N[i]? =some x)(hx:Loc X.env.scope x)(r:RelV v u)
  (h:∀s',Inv X pins (σ.set i (some v)) H s'→(∃a,Heap.SameBut a s.heap s'.heap∧(a=X.env.locals∨X.env.cells.lookup x=some a))→Q () s') (hf:X.fn x=true∨X.env.scope.names.lookup x=some .local:=by first|exact .inl rfl|exact .inr rfl|assumption):wpAny M A (storeName X.env x u) Q E s:=by
 obtain⟨m,hn,hl⟩:=id I.loc
 have hcls:(X.env.scope.kind== .class|| (X.env.scope.kind== .module&&X.env.locals !=X.env.globals))=false:=by rw[I.ok.kind];rfl
 have hiσ:i<σ.length:=by rw[I.len];exact(List.getElem?_eq_some_iff.mp hi).1
 have cne:=I.cne
 have tracked:∀{a:Addr} {h':Heap},(∃o,s.heap.get? a=some o∧H a=none)→Heap.SameBut a s.heap h'→HOk X.prog X.w H h':=fun{a h'} ha hs b ob e=>by
  obtain⟨_,_,hfree⟩:=ha
  refine(I.hok b ob e).stay (fun c w' hc q=>(hs.2 c ?_).trans q) (fun _ q=>q) fun _ _ q=>q
  rintro rfl
  rcases hc with rfl|hc
  ·rw[hfree]at e;cases e
  ·rw[hfree]at hc;cases hc
 rcases hx with hk|hk
 ·refine wpAny_storeName_local hk hn (fun h' hn' hs=>?_) hcls
  obtain⟨oL,_,_,hoL,_⟩:=id hn
  refine h _ ⟨I.ok,I.os,I.bare,⟨fun b o e n hb hx=>?_,fun b o e n hb hx=>?_,I.base.free,fun b o e hx=>?_,I.base.tups,I.base.frzs,I.base.tbls⟩,⟨_,hn',fun j y v' e1 e2 e3=>?_⟩,fun y c e=>?_,I.free,I.freeC,fun p hp=>?_,tracked ⟨oL,hoL,I.free⟩ hs,by simpa using I.len⟩ ⟨_,hs,.inl rfl⟩
  ·exact(hs.2 b (Nat.ne_of_lt (Nat.lt_of_lt_of_le (Heap.lt_size e) I.ok.above))).trans (I.base.keep b o e n hb hx)
  ·obtain⟨sl,e1⟩:=I.base.slot b o e n hb hx
   exact⟨sl,(hs.2 b (Nat.ne_of_lt (Nat.lt_of_lt_of_le (Heap.lt_size e) I.ok.above))).trans e1⟩
  ·obtain⟨o',e1⟩:=I.base.there b o e hx
   exact⟨o',(hs.2 b (Nat.ne_of_lt (Nat.lt_of_lt_of_le (Heap.lt_size e) I.ok.above))).trans e1⟩
  ·by_cases hj:j=i
   ·subst hj
    rw[hi]at e1;cases e1
    rw[List.getElem?_set_self hiσ]at e2
    cases e2
    exact⟨u,r,.inl ⟨hk,by simp⟩⟩
   ·rw[List.getElem?_set_ne (Ne.symm hj)]at e2
    obtain⟨u',r',q⟩:=hl j y v' e1 e2 e3
    refine⟨u',r',?_⟩
    rcases q with⟨k,e⟩|⟨k,c,e,z⟩
    ·refine .inl ⟨k,?_⟩
     have:y≠x:=fun e=>hj (Zi0 hN e1 (e▸hi))
     simp[this,e]
    ·exact .inr ⟨k,c,e,z.sameBut hs (cne y c e)⟩
  ·obtain⟨w',z⟩:=I.cell y c e
   exact⟨w',z.sameBut hs (cne y c e)⟩
  ·obtain⟨e,n,ne,nf,d⟩:=I.pin p hp
   exact⟨(hs.2 p.1 ne).trans e,n,ne,nf,d⟩
 ·have hfn:X.fn x=true:=by
   rcases hf with z|z
   ·exact z
   ·rw[z]at hk;cases hk
  obtain⟨c,hc⟩:=I.ok.has x (.inl hk)
  obtain⟨w',z⟩:=I.cell x c hc
  refine wpAny_storeName_cell I.ok.kind hk hc z (fun h' hc' hs=>?_)
  obtain⟨oc,hoc,hocd⟩:=id z
  refine h {s with heap:=h'} ⟨I.ok,I.os,I.bare,⟨fun b o e n hb hx=>?_,fun b o e n hb hx=>?_,I.base.free,fun b o e hx=>?_,I.base.tups,I.base.frzs,I.base.tbls⟩,⟨m,hn.sameBut hs (Ne.symm (cne x c hc)),fun j y v' e1 e2 e3=>?_⟩,fun y c' e=>?_,I.free,I.freeC,fun p hp=>?_,tracked ⟨oc,hoc,I.freeC x c hc⟩ hs,by simpa using I.len⟩ ⟨c,hs,.inr hc⟩
  ·exact(hs.2 b (Nat.ne_of_lt (Nat.lt_of_lt_of_le (Heap.lt_size e) (I.ok.cab x c hfn hc)))).trans (I.base.keep b o e n hb hx)
  ·obtain⟨sl,e1⟩:=I.base.slot b o e n hb hx
   exact⟨sl,(hs.2 b (Nat.ne_of_lt (Nat.lt_of_lt_of_le (Heap.lt_size e) (I.ok.cab x c hfn hc)))).trans e1⟩
  ·obtain⟨o',e1⟩:=I.base.there b o e hx
   exact⟨o',(hs.2 b (Nat.ne_of_lt (Nat.lt_of_lt_of_le (Heap.lt_size e) (I.ok.cab x c hfn hc)))).trans e1⟩
  ·by_cases hj:j=i
   ·subst hj
    rw[hi]at e1;cases e1
    rw[List.getElem?_set_self hiσ]at e2
    cases e2
    exact⟨u,r,.inr ⟨.inl hk,c,hc,hc'⟩⟩
   ·rw[List.getElem?_set_ne (Ne.symm hj)]at e2
    obtain⟨u',r',q⟩:=hl j y v' e1 e2 e3
    refine⟨u',r',?_⟩
    rcases q with q|⟨k,c',e,z'⟩
    ·exact .inl q
    ·refine .inr ⟨k,c',e,z'.sameBut hs ?_⟩
     rintro rfl
     exact hj (Zi0 hN e1 (I.ok.inj _ _ _ e hc▸hi))
  ·by_cases hcc:c'=c
   ·subst hcc;exact⟨_,hc'⟩
   ·obtain⟨w2,z2⟩:=I.cell y c' e
    exact⟨w2,z2.sameBut hs hcc⟩
  ·obtain⟨e,n,ne,nf,d⟩:=I.pin p hp
   refine⟨(hs.2 p.1 ?_).trans e,n,ne,nf,d⟩
   intro q
   rw[q,hoc]at e
   have q':oc=p.2:=Option.some.inj e
   exact d w' (by rw[←q'];exact hocd)
theorem Zi1{M:Model}{A:Around}{E:Value→Shared→Prop}{i:Nat}{x:Str}{v:V}{u:Value}{Q:Unit→Shared→Prop}(I:Inv X pins σ H s)(hN:X.N.Nodup)(hi:X.N[i]? =some x)(hx:Loc X.env.scope x)(r:RelV v u)
  (h:∀s',Inv X pins (σ.set i (some v)) H s'→Q () s') (hf:X.fn x=true∨X.env.scope.names.lookup x=some .local:=by first|exact .inl rfl|exact .inr rfl|assumption):wpAny M A (storeName X.env x u) Q E s:=
 Zgf I hN hi hx r (fun s' I' _=>h s' I') hf
theorem Inv.call'{s':Shared}{ch:List Addr}(I:Inv X pins σ H s)(ho:s'.os=s.os)(u:Un (frs X.stack) ch H H' s.heap s'.heap)(hok:HOk X.prog X.w H' s'.heap)(hg:AllBare s'.gens)
  (hch:∀b∈ch,(b∈X.ex∨X.s₀.heap.objs.size≤b)∧b≠X.env.locals∧(∀x c,X.env.cells.lookup x=some c→c≠b)∧∀p∈X.pn++pins,p.1≠b):Inv X pins σ H' s':=by
 obtain⟨h',g',d',t',o'⟩:=s'
 have e:o'=s.os:=ho
 subst e
 exact I.call (g':=g') (t':=t') (d':=d') u hok hg hch
end
noncomputable abbrev XK:=Value→Option Addr→Hp→Prop
noncomputable abbrev St:=List (Option V)
noncomputable abbrev VK:=V→Hp→Prop
noncomputable abbrev TE:=St→Hp→VK→Prop
noncomputable abbrev TT:=St→Hp→(Bool→Hp→Prop)→Prop
noncomputable abbrev TA:=St→Hp→(List V→Hp→Prop)→Prop
set_option genInjectivity false in
structure Ends where
 nx:St→Hp→Prop
 rt:VK
 bk:St→Hp→Prop:=fun _ _=>False
 ct:St→Hp→Prop:=fun _ _=>False
noncomputable abbrev TS:=Ends→St→Hp→Prop
noncomputable def EP(X:Cx)(pins:List (Addr×Obj))(σ:St)(Q:VK)(u:Value)(s':Shared):Prop:=∃v H',Inv X pins σ H' s'∧RelV v u∧Q v H'
noncomputable def TP(X:Cx)(pins:List (Addr×Obj))(σ:St)(Q:Bool→Hp→Prop)(b:Bool)(s':Shared):Prop:=∃H',Inv X pins σ H' s'∧Q b H'
noncomputable def AP(X:Cx)(pins:List (Addr×Obj))(σ:St)(Q:List V→Hp→Prop)(us:List Value)(s':Shared):Prop:=∃vs H',Inv X pins σ H' s'∧Vals vs us∧Q vs H'
noncomputable def SP(X:Cx)(pins:List (Addr×Obj))(D:Ends)(f:Flow)(s':Shared):Prop:=
 match f with
 | .next=>∃σ' H',Inv X pins σ' H' s'∧D.nx σ' H'
 | .brk=>∃σ' H',Inv X pins σ' H' s'∧D.bk σ' H'
 | .cont=>∃σ' H',Inv X pins σ' H' s'∧D.ct σ' H'
 | .ret u=>∃v σ' H',Inv X pins σ' H' s'∧RelV v u∧D.rt v H'
noncomputable def PE(X:Cx)(e:Expr)(t:TE):Prop:=
 ∀(pins:List (Addr×Obj)) (s:Shared) (σ:St) (H:Hp) (Q:VK),Inv X pins σ H s→t σ H Q→wpAny (model X.prog X.w) X.A (eval e X.env) (EP X pins σ Q) X.xe s
noncomputable def PT(X:Cx)(e:Expr)(t:TT):Prop:=
 ∀(pins:List (Addr×Obj)) (s:Shared) (σ:St) (H:Hp) (Q:Bool→Hp→Prop),Inv X pins σ H s→t σ H Q→wpAny (model X.prog X.w) X.A (isTrue e X.env (eval e X.env)) (TP X pins σ Q) X.xe s
noncomputable def PW(X:Cx)(e:Expr)(t:TT):Prop:=
 ∀(whole:Sem Value) (pins:List (Addr×Obj)) (s:Shared) (σ:St) (H:Hp) (Q:Bool→Hp→Prop),Inv X pins σ H s→t σ H Q→wpAny (model X.prog X.w) X.A (isTrue e X.env whole) (TP X pins σ Q) X.xe s
theorem PW.pt{X:Cx}{e:Expr}{t:TT}(h:PW X e t):PT X e t:=h _
noncomputable def PA(X:Cx)(es:List Expr)(t:TA):Prop:=
 ∀(pos:Pos) (pins:List (Addr×Obj)) (s:Shared) (σ:St) (H:Hp) (Q:List V→Hp→Prop),Inv X pins σ H s→t σ H Q→wpAny (model X.prog X.w) X.A (spliced (backTo pos (starEach es X.env))) (AP X pins σ Q) X.xe s
noncomputable def PS(X:Cx)(st:Stmt)(t:TS):Prop:=
 ∀(pins:List (Addr×Obj)) (s:Shared) (σ:St) (H:Hp) (D:Ends),Inv X pins σ H s→t D σ H→wpAny (model X.prog X.w) X.A (exec st X.env) (SP X pins D) X.xe s
noncomputable def PSs(X:Cx)(st:List Stmt)(t:TS):Prop:=
 ∀(pins:List (Addr×Obj)) (s:Shared) (σ:St) (H:Hp) (D:Ends),Inv X pins σ H s→t D σ H→wpAny (model X.prog X.w) X.A (execs st X.env) (SP X pins D) X.xe s
theorem thn{α:Type}{t:Sem α}{Q Q':α→Shared→Prop}{M:Model}{A:Around}{E:Value→Shared→Prop}{s:Shared}(h:wpAny M A t Q E s)(hQ:∀a s,Q a s→Q' a s):wpAny M A t Q' E s:=wpAny_mono h hQ fun _ _ x=>x
end L2
namespace L2
open PySem PySem.Spec PyProof.Rows
section
variable{X:Cx}
noncomputable def tVar(i:Nat):TE:=fun σ H Q=>∃v,σ[i]? =some (some v)∧Q v H
noncomputable def tC(v:V):TE:=fun _ H Q=>Q v H
theorem Zi2{i:Nat}{x:Str}{pos:Pos}(hN:X.N[i]? =some x)(hv:Vis X.env.scope x)(hd:(x==("__debug__":Str))=false:=by decide)(hcd:(x==("__classdict__":Str))=false:=by decide):PE X (.Name x pos) (tVar i):=by
 intro pins s σ H Q I h
 obtain⟨v,e,h⟩:=h
 obtain⟨m,hn,hl⟩:=I.loc
 obtain⟨u,r,l⟩:=hl i x v hN e hv
 have fin:EP X pins σ Q u s:=⟨v,H,I,r,h⟩
 rcases l with⟨hk,hm⟩|⟨hk,c,hc,hcell⟩
 ·exact wpAny_Name (wpAny_loadName_local I.ok.kind hk hn hm fin) hd
 ·rcases hk with hk|hk
  ·exact wpAny_Name (wpAny_loadName_cell I.ok.kind hk hc hcell fin) hd
  ·exact wpAny_Name (wpAny_loadName_free I.ok.kind hk hc hcell fin hcd) hd
theorem Zto{i j pos}:PE X (.Constant (.int i) j pos) (tC (.int i)):=fun _ _ _ H _ I h=>wpAny_Constant_int ⟨.int i,H,I.tok _,⟨_,rfl⟩,h⟩
theorem Zxf{b j pos}:PE X (.Constant (.bool b) j pos) (tC (.bl b)):=fun _ _ _ H _ I h=>Constant_bool ⟨.bl b,H,I,rfl,h⟩
theorem Ztp{j pos}:PE X (.Constant .none j pos) (tC .non):=fun _ _ _ H _ I h=>Constant_none ⟨.non,H,I,rfl,h⟩
theorem Ztq{x j pos}:PE X (.Constant (.str x) j pos) (tC (.str x)):=fun _ _ _ H _ I h=>Calls.Constant_str ⟨.str x,H,I.tok _,⟨_,rfl⟩,h⟩
noncomputable def Gl(X:Cx)(x:Str):Prop:=X.env.kindOf x=some .globalImplicit
theorem Zk6{E:Value→Shared→Prop}{pins:List (Addr×Obj)}{s:Shared}{σ:St}{H:Hp}{x:Str}{u:Value}{pos:Pos}{Q:Value→Shared→Prop}(I:Inv X pins σ H s)(hg:Gl X x)(hm:X.mg x=some u)(h:Q u s)
  (hd:(x==("__debug__":Str))=false:=by decide):wpAny (model X.prog X.w) X.A (eval (.Name x pos) X.env) Q E s:=
 Calls.Name_function_global I.ok.kind hg (Calls.loadGlobal_global (by rw[I.ok.glob];exact I.mod.glob.keeps I.bk) hm h) hd
theorem Zd4{E:Value→Shared→Prop}{pins:List (Addr×Obj)}{s:Shared}{σ:St}{H:Hp}{x:Str}{u:Value}{pos:Pos}{Q:Value→Shared→Prop}(I:Inv X pins σ H s)(hg:Gl X x)(hm:X.mg x=none)(hv:bootBuiltins x=some u)(h:Q u s)
  (hn:x≠"__name__":=by decide) (hd:(x==("__debug__":Str))=false:=by decide):wpAny (model X.prog X.w) X.A (eval (.Name x pos) X.env) Q E s:=by
 obtain⟨mb,h1,h2⟩:=I.mod.blt
 exact Calls.Name_function_global I.ok.kind hg (Calls.loadGlobal_builtin (by rw[I.ok.glob];exact I.mod.glob.keeps I.bk) hm (by rw[I.ok.blt];exact h1.keeps I.bk) ((h2 x hn).trans hv) h) hd
theorem Zqt{x:Str}{v:V}{u:Value}{pos:Pos}(hg:Gl X x)(hm:X.mg x=some u)(r:RelV v u)(hd:(x==("__debug__":Str))=false:=by decide):PE X (.Name x pos) (tC v):=
 fun _ _ _ H _ I h=>Zk6 I hg hm ⟨v,H,I,r,h⟩ hd
noncomputable def t2I(ta tb:TE)(k:Int→Int→Hp→Prop):St→Hp→Prop:=fun σ H=>ta σ H fun x H1=>tb σ H1 fun y H2=>∃i j,x= .int i∧y= .int j∧k i j H2
noncomputable def tAdd(ta tb:TE):TE:=fun σ H Q=>t2I ta tb (fun i j H2=>Q (.int (i+j)) H2) σ H
noncomputable def tSub(ta tb:TE):TE:=fun σ H Q=>t2I ta tb (fun i j H2=>Q (.int (i- j)) H2) σ H
noncomputable def tMul(ta tb:TE):TE:=fun σ H Q=>t2I ta tb (fun i j H2=>(-(2^64)<i∧i<2^64)∧Q (.int (i*j)) H2) σ H
variable{a b:Expr}{ta tb:TE}{pos:Pos}
noncomputable def PC(X:Cx)(op:CmpOp)(a b:Expr)(t:TE):Prop:=
 ∀(pins:List (Addr×Obj)) (s:Shared) (σ:St) (H:Hp) (Q:VK),Inv X pins σ H s→t σ H Q→
  wpAny (model X.prog X.w) X.A (eval a X.env) (fun v s₁=>wpAny (model X.prog X.w) X.A (eval b X.env) (fun u s₂=>wpAny (model X.prog X.w) X.A (compareOp op v u) (EP X pins σ Q) X.xe s₂) X.xe s₁) X.xe s
noncomputable def tCmp(p:Int→Int→Bool)(ta tb:TE):TE:=fun σ H Q=>t2I ta tb (fun i j H2=>Q (.bl (p i j)) H2) σ H
noncomputable abbrev tLt:TE→TE→TE:=tCmp fun i j=>decide (i<j)
noncomputable abbrev tLe:TE→TE→TE:=tCmp fun i j=>decide (i≤j)
noncomputable abbrev tGt:TE→TE→TE:=tCmp fun i j=>decide (j<i)
noncomputable abbrev tGe:TE→TE→TE:=tCmp fun i j=>decide (j≤i)
noncomputable abbrev tEqI:TE→TE→TE:=tCmp fun i j=>decide (i=j)
noncomputable abbrev tNeI:TE→TE→TE:=tCmp fun i j=>!decide (i=j)
noncomputable def tIsN(ta:TE):TE:=fun σ H Q=>ta σ H fun x H1=>Q (.bl (decide (x= .non))) H1
noncomputable def Z1i(ta:TE):TE:=fun σ H Q=>ta σ H fun x H1=>Q (.bl (!decide (x= .non))) H1
noncomputable def tB(t:TE):TT:=fun σ H Q=>t σ H fun x H1=>∃c,x= .bl c∧Q c H1
theorem Ztr{e:Expr}{t:TE}(h:PE X e t)(he:∀whole,isTrue e X.env whole=(do let v←whole;standAt e.pos;holding [v] (truthy v)):=by intro _;rfl):PT X e (tB t):=by
 intro pins s σ H Q I hw
 refine isTrue_plain (thn (h pins s σ H _ I hw) fun v s1 ⟨x,H1,I1,r1,q1⟩=>?_) (he _)
 obtain⟨d,rfl,q⟩:=q1
 cases r1
 exact wpAny_truthy_bool ⟨H1,I1,q⟩
variable{tA tB':TT}{rest:List Expr}
noncomputable def tAnd(t u:TT):TT:=fun σ H Q=>t σ H fun c H1=>if c=true then u σ H1 Q else Q false H1
noncomputable def tOr(t u:TT):TT:=fun σ H Q=>t σ H fun c H1=>if c=true then Q true H1 else u σ H1 Q
noncomputable def tNot(t:TT):TT:=fun σ H Q=>t σ H fun c H1=>Q (!c) H1
theorem Zqu(ha:PT X a tA):PW X (.BoolOp .And [a] pos) tA:=by
 intro wh pins s σ H Q I h
 refine isTrue_and (thn (ha pins s σ H Q I h) fun c s1 e=>?_)
 cases c with
 |true=>exact isTrue_and_nil e
 |false=>exact e
theorem Zts(ha:PT X a tA):PW X (.BoolOp .Or [a] pos) tA:=by
 intro wh pins s σ H Q I h
 refine isTrue_or (thn (ha pins s σ H Q I h) fun c s1 e=>?_)
 cases c with
 |false=>exact isTrue_or_nil e
 |true=>exact e
theorem Ztt(ha:PT X a tA)(hb:PW X (.BoolOp .And (b::rest) pos) tB'):PW X (.BoolOp .And (a::b::rest) pos) (tAnd tA tB'):=by
 intro wh pins s σ H Q I h
 refine isTrue_and (thn (ha pins s σ H _ I h) fun c s1 zq9=>?_)
 obtain⟨H1,I1,q1⟩:=zq9
 cases c with
 |true=>exact hb wh pins s1 σ H1 Q I1 q1
 |false=>exact⟨H1,I1,q1⟩
theorem Zxg(ha:PT X a tA)(hb:PW X (.BoolOp .Or (b::rest) pos) tB'):PW X (.BoolOp .Or (a::b::rest) pos) (tOr tA tB'):=by
 intro wh pins s σ H Q I h
 refine isTrue_or (thn (ha pins s σ H _ I h) fun c s1 zq9=>?_)
 obtain⟨H1,I1,q1⟩:=zq9
 cases c with
 |true=>exact⟨H1,I1,q1⟩
 |false=>exact hb wh pins s1 σ H1 Q I1 q1
theorem Ztu(ha:PT X a tA):PT X (.UnaryOp .Not a pos) (tNot tA):=by
 intro pins s σ H Q I h
 exact isTrue_not (ha pins s σ H (fun c H1=>Q (!c) H1) I h)
noncomputable def Ztv(ta tb:TE):TE:=fun σ H Q=>ta σ H fun x H1=>∃c,x= .bl c∧if c=true then tb σ H1 Q else Q (.bl false) H1
noncomputable def tOrV(ta tb:TE):TE:=fun σ H Q=>ta σ H fun x H1=>∃c,x= .bl c∧if c=true then Q (.bl true) H1 else tb σ H1 Q
noncomputable def Z1j(ta:TE):TE:=fun σ H Q=>ta σ H fun x H1=>∃c,x= .bl c∧Q (.bl (!c)) H1
theorem Ztw{op} {t:TE} (h:PE X a t):PE X (.BoolOp op [a] pos) t:=fun pins s σ H Q I hw=>BoolOp_one (h pins s σ H Q I hw)
theorem Ztx(ha:PE X a ta)(hb:PE X (.BoolOp .And (b::rest) pos) tb):PE X (.BoolOp .And (a::b::rest) pos) (Ztv ta tb):=by
 intro pins s σ H Q I h
 refine BoolOp_and (thn (ha pins s σ H _ I h) fun v s1 zq9=>?_)
 obtain⟨x,H1,I1,r1,q1⟩:=zq9
 obtain⟨c,rfl,q1⟩:=q1
 cases r1
 refine wpAny_truthy_bool ?_
 cases c with
 |true=>exact hb pins s1 σ H1 Q I1 q1
 |false=>exact⟨.bl false,H1,I1,rfl,q1⟩
noncomputable def tIf(t:TT)(ta tb:TE):TE:=fun σ H Q=>t σ H fun c H1=>if c=true then ta σ H1 Q else tb σ H1 Q
theorem Znu{c:Expr}(hc:PT X c tA)(ha:PE X a ta)(hb:PE X b tb):PE X (.IfExp c a b pos) (tIf tA ta tb):=by
 intro pins s σ H Q I h
 refine wpAny_IfExp (thn (hc pins s σ H _ I h) fun d s1 zq9=>?_)
 obtain⟨H1,I1,q1⟩:=zq9
 cases d with
 |true=>exact ha pins s1 σ H1 Q I1 q1
 |false=>exact hb pins s1 σ H1 Q I1 q1
end
end L2
namespace L2
open PySem PySem.Spec PyProof.Rows
noncomputable def SqL(K:PySem.W.Frag)(H:Hp)(a:Addr)(xs:List V):Prop:=
 Rd H a (.lst xs)∨
  ∃(o:Obj) (its:Array Value) (n:Nat),K.lookup a=some o∧o.cls= .type "list"∧o.dict=none∧o.data= .seq its n∧its.size≤sizeLine∧Vals xs its.toList
noncomputable def SqT(K:PySem.W.Frag)(H:Hp)(a:Addr)(xs:List V):Prop:=
 Rd H a (.tup xs)∨
  ∃(o:Obj) (its:Array Value) (n:Nat),K.lookup a=some o∧o.cls= .type "tuple"∧o.data= .seq its n∧its.size≤sizeLine∧Vals xs its.toList
noncomputable def absV:Value→Option V
 | .none=>some .non
 | .bool b=>some (.bl b)
 | .int i _=>some (.int i)
 | .str x _=>some (.str x)
 | .bytes b _=>some (.byt b)
 | .float b _=>some (.flt b)
 | .ref a=>some (.ref a)
 | .type n=>some (.ty n)
 |_=>none
theorem RelV.abs{x:V}{u:Value}(r:RelV x u):absV u=some x:=by
 cases x with
 |non=>cases r;rfl
 |bl _=>cases r;rfl
 |int _=>obtain⟨t,rfl⟩:=r;rfl
 |str _=>obtain⟨t,rfl⟩:=r;rfl
 |byt _=>obtain⟨t,rfl⟩:=r;rfl
 |flt _=>obtain⟨t,rfl⟩:=r;rfl
 |ref _=>cases r;rfl
 |ty _=>cases r;rfl
theorem RelV.inj{x y:V}{u:Value}(r:RelV x u)(q:RelV y u):x=y:=Option.some.inj (r.abs.symm.trans q.abs)
theorem Vals.inj{xs:List V}:∀{ys:List V} {us:List Value},Vals xs us→Vals ys us→xs=ys:=by
 induction xs with
 |nil=>intro ys us h g;cases h;cases g;rfl
 |cons x xs ih=>
  intro ys us h g
  cases h with
  |cons r t=>
   cases g with
   |cons r' t'=>rw[r.inj r',ih t t']
section
variable{X:Cx}{pins:List (Addr×Obj)}{σ:St}{H:Hp}{s:Shared}{a:Addr}{xs ys:List V}
theorem Inv.list(I:Inv X pins σ H s)(h:SqL X.K H a xs):∃its:List Value,Vals xs its∧PlainL s.heap a its.toArray∧xs.length≤sizeLine:=by
 rcases h with h|⟨o,its,n,hk,hc,hd,hs,hz,r⟩
 ·obtain⟨z,its,n,r,e⟩:=h.ok I.hok
  exact⟨its,r,⟨_,n,e,rfl,rfl,rfl⟩,z⟩
 ·refine⟨its.toList,r,⟨o,n,I.kIn a o hk,hc,hd,by simpa using hs⟩,?_⟩
  have e:=r.length
  simp only[Array.length_toList]at e
  omega
theorem Inv.tuple(I:Inv X pins σ H s)(h:SqT X.K H a xs):∃its:List Value,Vals xs its∧IsTup s.heap a its.toArray∧xs.length≤sizeLine:=by
 rcases h with h|⟨o,its,n,hk,hc,hs,hz,r⟩
 ·obtain⟨z,its,r,p⟩:=h.ok I.hok
  exact⟨its,r,p,z⟩
 ·refine⟨its.toList,r,⟨o,I.kIn a o hk,hc,n,by simpa using hs⟩,?_⟩
  have e:=r.length
  simp only[Array.length_toList]at e
  omega
theorem Inv.list_inj(I:Inv X pins σ H s)(h:SqL X.K H a xs)(h':SqL X.K H a ys):xs=ys:=by
 obtain⟨its,r,⟨o,n,e,_,_,d⟩,_⟩:=I.list h
 obtain⟨its',r',⟨o',n',e',_,_,d'⟩,_⟩:=I.list h'
 rw[e]at e';cases e'
 rw[d]at d'
 injection d' with d1 _
 have:its=its':=by simpa using congrArg Array.toList d1
 subst this
 exact r.inj r'
theorem Inv.tuple_inj(I:Inv X pins σ H s)(h:SqT X.K H a xs)(h':SqT X.K H a ys):xs=ys:=by
 obtain⟨its,r,⟨o,e,_,n,d⟩,_⟩:=I.tuple h
 obtain⟨its',r',⟨o',e',_,n',d'⟩,_⟩:=I.tuple h'
 rw[e]at e';cases e'
 rw[d]at d'
 injection d' with d1 _
 have:its=its':=by simpa using congrArg Array.toList d1
 subst this
 exact r.inj r'
end
noncomputable abbrev Cx.wish(X:Cx)(E:Value→Shared→Prop):Cx:={X with xe:=E}
noncomputable abbrev Cx.nox(X:Cx):Cx:=X.wish fun _ _=>False
theorem Cx.Ok.wish{X:Cx}(ok:X.Ok)(E:Value→Shared→Prop):(X.wish E).Ok:=
 ⟨ok.mod,ok.kind,ok.glob,ok.blt,ok.above,ok.inj,ok.has,ok.cab,ok.hd,ok.frames,ok.stk,ok.exf,ok.bs,ok.bsz,ok.noex,ok.exfs,ok.funs,ok.frf⟩
theorem Cx.Ok.unwish{X:Cx}{E:Value→Shared→Prop}(ok:(X.wish E).Ok):X.Ok:=
 ⟨ok.mod,ok.kind,ok.glob,ok.blt,ok.above,ok.inj,ok.has,ok.cab,ok.hd,ok.frames,ok.stk,ok.exf,ok.bs,ok.bsz,ok.noex,ok.exfs,ok.funs,ok.frf⟩
section
variable{X:Cx}{pins:List (Addr×Obj)}{σ:St}{H:Hp}{s:Shared}{E:Value→Shared→Prop}
theorem Inv.wish(I:Inv X pins σ H s)(E:Value→Shared→Prop):Inv (X.wish E) pins σ H s:=⟨I.ok.wish E,I.os,I.bare,I.base,I.loc,I.cell,I.free,I.freeC,I.pin,I.hok,I.len⟩
theorem Inv.unwish(I:Inv (X.wish E) pins σ H s):Inv X pins σ H s:=⟨I.ok.unwish,I.os,I.bare,I.base,I.loc,I.cell,I.free,I.freeC,I.pin,I.hok,I.len⟩
theorem SP.unwish{D:Ends}{f:Flow}{s':Shared}(h:SP (X.wish E) pins D f s'):SP X pins D f s':=by
 cases f with
 |next=>obtain⟨σ',H',I,q⟩:=h;exact⟨σ',H',I.unwish,q⟩
 |brk=>obtain⟨σ',H',I,q⟩:=h;exact⟨σ',H',I.unwish,q⟩
 |cont=>obtain⟨σ',H',I,q⟩:=h;exact⟨σ',H',I.unwish,q⟩
 |ret u=>obtain⟨v,σ',H',I,r,q⟩:=h;exact⟨v,σ',H',I.unwish,r,q⟩
theorem PSs.nox{st:List Stmt}{t:TS}(h:PSs X.nox st t):PSs X st t:=fun pins s σ H D I hw=>
 wpAny_mono (h pins s σ H D (I.wish _) hw) (fun _ _ q=>q.unwish) fun _ _ z=>False.elim z
end
section
variable{X:Cx}{st:Stmt}{rest:List Stmt}{t u:TS}{e:Expr}{te:TE}{pos:Pos}
noncomputable def Zty:TS:=fun D σ H=>D.nx σ H
noncomputable def tSeq(t u:TS):TS:=fun D σ H=>t {D with nx:=u D} σ H
theorem Zqv:PSs X [] Zty:=fun _ _ σ H _ I h=>wpAny_execs_nil ⟨σ,H,I,h⟩
theorem Znv(h1:PS X st t)(h2:PSs X rest u):PSs X (st::rest) (tSeq t u):=by
 intro pins s σ H D I h
 refine wpAny_execs_cons (thn (h1 pins s σ H {D with nx:=u D} I h) fun f s1 q=>?_)
 cases f with
 |next=>
  obtain⟨σ',H',I',q⟩:=q
  exact h2 pins s1 σ' H' D I' q
 |ret v=>exact q
 |brk=>exact q
 |cont=>exact q
theorem Zqw(h1:PS X st t):PSs X [st] t:=by
 intro pins s σ H D I h
 refine wpAny_execs_cons (thn (h1 pins s σ H D I h) fun f s1 q=>?_)
 cases f with
 |next=>exact wpAny_execs_nil q
 |ret v=>exact q
 |brk=>exact q
 |cont=>exact q
noncomputable def Zzz:TS:=fun D σ H=>D.bk σ H
noncomputable def Z1k:TS:=fun D σ H=>D.ct σ H
theorem Inv.quiet{pins:List (Addr×Obj)}{σ:St}{H:Hp}{s:Shared}(I:Inv X pins σ H s):interactive X.env=false:=by simp[interactive,I.ok.kind]
noncomputable def Ztz(te:TE):TS:=fun D σ H=>te σ H fun _ H1=>D.nx σ H1
theorem Zqx(he:PE X e te)(hs:swapsWith e none pos.line X.env=pure false:=by rfl):PS X (.Expr e pos) (Ztz te):=by
 intro pins s σ H D I h
 exact wpAny_Expr_any (thn (he pins s σ H _ I h) fun v s1 ⟨x,H1,I1,r1,q1⟩=>⟨σ,H1,I1,q1⟩) I.quiet hs
noncomputable def tRet(te:TE):TS:=fun D σ H=>te σ H D.rt
theorem Zt0(he:PE X e te):PS X (.Return (some e) pos) (tRet te):=by
 intro pins s σ H D I h
 exact wpAny_Return_some (thn (he pins s σ H _ I h) fun v s1 ⟨x,H1,I1,r1,q1⟩=>⟨x,σ,H1,I1,r1,q1⟩)
noncomputable def Z1l:TS:=fun D _ H=>D.rt .non H
noncomputable def tIfS(c:TT)(t u:TS):TS:=fun D σ H=>c σ H fun b H1=>if b=true then t D σ H1 else u D σ H1
theorem Zxh{c:Expr}{a b:List Stmt}{tc:TT}(hc:PT X c tc)(ha:PSs X a t)(hb:PSs X b u):PS X (.If c a b pos) (tIfS tc t u):=by
 intro pins s σ H D I h
 refine wpAny_If (thn (hc pins s σ H _ I h) fun d s1 zq9=>?_)
 obtain⟨H1,I1,q1⟩:=zq9
 cases d with
 |true=>exact ha pins s1 σ H1 D I1 q1
 |false=>exact hb pins s1 σ H1 D I1 q1
noncomputable def Zz0:TS:=fun _ _ _=>False
end
noncomputable abbrev TG:=V→St→Hp→(St→Hp→Prop)→Prop
noncomputable abbrev TGs:=List V→St→Hp→(St→Hp→Prop)→Prop
noncomputable def PG(X:Cx)(target:Expr)(t:TG):Prop:=
 ∀(pins:List (Addr×Obj)) (s:Shared) (σ:St) (H:Hp) (v:V) (u:Value) (Q:St→Hp→Prop),Inv X pins σ H s→RelV v u→t v σ H Q→
  wpAny (model X.prog X.w) X.A (assign target X.env u) (fun _ s'=>∃σ' H',Inv X pins σ' H' s'∧Q σ' H') X.xe s
noncomputable def PGs(X:Cx)(ts:List Expr)(t:TGs):Prop:=
 ∀(pins:List (Addr×Obj)) (s:Shared) (σ:St) (H:Hp) (vs:List V) (us:List Value) (Q:St→Hp→Prop),Inv X pins σ H s→Vals vs us→t vs σ H Q→
  wpAny (model X.prog X.w) X.A (assignInOrder ((assignEach ts X.env).map (·.2)) us) (fun _ s'=>∃σ' H',Inv X pins σ' H' s'∧Q σ' H') X.xe s
noncomputable abbrev TSet:=V→V→V→Hp→(Hp→Prop)→Prop
noncomputable def PSet(X:Cx)(t:TSet):Prop:=
 ∀(pins:List (Addr×Obj)) (s:Shared) (σ:St) (H:Hp) (o i v:V) (ov iv u:Value) (Q:Hp→Prop),Inv X pins σ H s→RelV o ov→RelV i iv→RelV v u→t o i v H Q→
  wpAny (model X.prog X.w) X.A (setItem ov iv u) (fun _ s'=>∃H',Inv X pins σ H' s'∧Q H') X.xe s
noncomputable abbrev TIp:=V→V→Hp→VK→Prop
noncomputable def PIp(X:Cx)(op:Operator)(t:TIp):Prop:=
 ∀(pins:List (Addr×Obj)) (s:Shared) (σ:St) (H:Hp) (x y:V) (v u:Value) (Q:VK),Inv X pins σ H s→RelV x v→RelV y u→t x y H Q→
  wpAny (model X.prog X.w) X.A (inplaceOp op v u) (EP X pins σ Q) X.xe s
section
variable{X:Cx}{pos:Pos}
noncomputable def Zj9(i:Nat):TG:=fun v σ H Q=>Q (σ.set i (some v)) H
theorem Zqy{i:Nat}{x:Str}(hN:X.N.Nodup)(hi:X.N[i]? =some x)(hx:Loc X.env.scope x)(hf:X.fn x=true∨X.env.scope.names.lookup x=some .local:=by first|exact .inl rfl|exact .inr rfl|assumption):PG X (.Name x pos) (Zj9 i):=by
 intro pins s σ H v u Q I r h
 exact wpAny_assign_Name (Zi1 I hN hi hx r (fun s' I'=>⟨_,H,I',h⟩) hf)
noncomputable def gNil:TGs:=fun vs σ H Q=>vs=[]∧Q σ H
noncomputable def Zt1(t:TG)(u:TGs):TGs:=fun vs σ H Q=>∃v r,vs=v::r∧t v σ H fun σ' H'=>u r σ' H' Q
theorem Zqz:PGs X [] gNil:=by
 intro pins s σ H vs us Q I r h
 obtain⟨e,h⟩:=h
 subst e
 cases r
 exact assignInOrder_nil ⟨σ,H,I,h⟩
theorem Znw{e:Expr}{es:List Expr}{t:TG}{u:TGs}(h1:PG X e t)(h2:PGs X es u)
  (hs:(assignEach (e::es) X.env).map (·.2)=assign e X.env::(assignEach es X.env).map (·.2):=by rfl):PGs X (e::es) (Zt1 t u):=by
 intro pins s σ H vs us Q I r h
 obtain⟨v,vr,e1,h⟩:=h
 subst e1
 cases r with
 |cons r rr=>
  rw[hs]
  refine assignInOrder_cons (thn (h1 pins s σ H _ _ _ I r h) fun _ s1 zq9=>?_)
  obtain⟨σ1,H1,I1,q1⟩:=zq9
  exact h2 pins s1 σ1 H1 _ _ Q I1 rr q1
noncomputable def gTup(K:PySem.W.Frag)(n:Nat)(t:TGs):TG:=fun v σ H Q=>∃a xs,v= .ref a∧SqT K H a xs∧xs.length=n∧t xs σ H Q
theorem Zt2{es:List Expr}{k:Nat}{t:TGs}{n:Nat}(hc:X.calm=true)(h:PGs X es t)
  (hn:(assignEach es X.env).length=n:=by rfl) (hst:(assignEach es X.env).findIdx? (·.1)=none:=by rfl):PG X (.Tuple es k pos) (gTup X.K n t):=by
 intro pins s σ H v u Q I r hw
 obtain⟨a,xs,e1,hq,hl,hw⟩:=hw
 subst e1
 cases r
 obtain⟨its,rv,ht,hz⟩:=I.tuple hq
 refine assign_Tuple_tuple (I.ok.hd hc) ht (by simp[hn,←hl,rv.length]) hst fun h' hx=>?_
 have I1:Inv X pins σ H {s with heap:=h'}:=I.kept (t':=s.toks) fun b o e=>hx b o (Nat.ne_of_lt (Heap.lt_size e)) e
 exact h pins _ σ H xs _ Q I1 (by simpa using rv) hw
noncomputable def gSub(to ti:TE)(t:TSet):TG:=fun v σ H Q=>to σ H fun o H1=>ti σ H1 fun i H2=>t o i v H2 fun H3=>Q σ H3
theorem Zt3{o i:Expr}{to ti:TE}{t:TSet}(ho:PE X o to)(hi:PE X i ti)(hs:PSet X t)
  (ha:∀v,assign (.Subscript o i pos) X.env v=(do
   let ov←holding [v] (eval o X.env)
   let iv←holding [v,ov] (eval i X.env)
   standAt pos
   holding [v,ov,iv] (setItem ov iv v)
   release [v,ov,iv] []):=by intro _;rfl):PG X (.Subscript o i pos) (gSub to ti t):=by
 intro pins s σ H v u Q I r h
 rw[ha]
 refine wpAny_bind (wpAny_holding (thn (ho pins s σ H _ I h) fun ov s1 zq9=>?_))
 obtain⟨x,H1,I1,r1,q1⟩:=zq9
 refine wpAny_bind (wpAny_holding (thn (hi pins s1 σ H1 _ I1 q1) fun iv s2 zq9=>?_))
 obtain⟨y,H2,I2,r2,q2⟩:=zq9
 refine wpAny_bind (wpAny_standAt (wpAny_bind (wpAny_holding (thn (hs pins s2 σ H2 x y v ov iv u _ I2 r1 r2 r q2) fun _ s3 zq9=>?_))))
 obtain⟨H3,I3,q3⟩:=zq9
 exact wpAny_release ⟨σ,H3,I3,q3⟩
noncomputable def tAsg(te:TE)(g:TG):TS:=fun D σ H=>te σ H fun x H1=>g x σ H1 D.nx
theorem Zpp{tg e:Expr}{te:TE}{g:TG}(he:PE X e te)(hg:PG X tg g)(hs:swapsWithSole [tg] e pos.line X.env=pure false:=by rfl)(hw:swappedStores [tg] e X.env=pure none:=by rfl)
  (h1:(assignEach [tg] X.env).map (·.2)=[assign tg X.env]:=by rfl):PS X (.Assign [tg] e pos) (tAsg te g):=by
 intro pins s σ H D I h
 refine wpAny_Assign_stores (thn (he pins s σ H _ I h) fun v s1 ⟨x,H1,I1,r1,q1⟩=>?_) hs hw
 rw[h1]
 exact thn (hg pins s1 σ H1 x v _ I1 r1 q1) fun _ s2 q=>q
theorem Zt4{i:Nat}{x:Str}{e:Expr}{te:TE}{pos':Pos}(hN:X.N.Nodup)(hi:X.N[i]? =some x)(hx:Loc X.env.scope x)(he:PE X e te)(hs:swapsWith e (some (.Name x pos')) pos.line X.env=pure false:=by rfl)(hf:X.fn x=true∨X.env.scope.names.lookup x=some .local:=by first|exact .inl rfl|exact .inr rfl|assumption):
  PS X (.Assign [.Name x pos'] e pos) (tAsg te (Zj9 i)):=by
 intro pins s σ H D I h
 refine wpAny_Assign_Name (thn (he pins s σ H _ I h) fun v s1 ⟨y,H1,I1,r1,q1⟩=>?_) hs
 exact Zi1 I1 hN hi hx r1 (fun s2 I2=>⟨_,H1,I2,q1⟩) hf
noncomputable def tPar(i j:Nat)(ta:TA):TS:=fun D σ H=>ta σ H fun vs H1=>∃v w,vs=[v,w]∧D.nx ((σ.set i (some v)).set j (some w)) H1
noncomputable def tAug(i:Nat)(te:TE)(ti:TIp):TS:=fun D σ H=>∃x,σ[i]? =some (some x)∧te σ H fun y H1=>ti x y H1 fun z H2=>D.nx (σ.set i (some z)) H2
noncomputable def Z1m(to ti te:TE)(tget:V→V→Hp→VK→Prop)(tip:TIp)(tset:TSet):TS:=fun D σ H=>to σ H fun o H1=>ti σ H1 fun i H2=>tget o i H2 fun x H3=>te σ H3 fun y H4=>tip x y H4 fun z H5=>tset o i z H5 fun H6=>D.nx σ H6
noncomputable def PGet(X:Cx)(t:V→V→Hp→VK→Prop):Prop:=
 ∀(pins:List (Addr×Obj)) (s:Shared) (σ:St) (H:Hp) (o i:V) (ov iv:Value) (Q:VK),Inv X pins σ H s→RelV o ov→RelV i iv→t o i H Q→
  wpAny (model X.prog X.w) X.A (getItem ov iv) (EP X pins σ Q) X.xe s
noncomputable def ipI(f:Int→Int→Int):TIp:=fun x y H Q=>∃i j,x= .int i∧y= .int j∧Q (.int (f i j)) H
end
section
variable{X:Cx}{pos:Pos}
noncomputable def Zpq(c:TT)(tb:TS):TS:=fun D σ H=>∃W:Nat→St→Hp→Prop,(∃m,W m σ H)∧∀m σ H,W m σ H→
 c σ H fun b H1=>if b=true then∃N:St→Hp→Prop,(∀σ' H',N σ' H'→∃m',m'<m∧W m' σ' H')∧tb {D with nx:=N,ct:=N,bk:=D.nx} σ H1 else D.nx σ H1
theorem Znx{c:Expr}{body:List Stmt}{tc:TT}{tb:TS}(hp:PassesOwn (model X.prog X.w) X.A X.env X.xe)(hc:PT X c tc)(hb:PSs X body tb):PS X (.While c body [] pos) (Zpq tc tb):=by
 intro pins s σ H D I h
 obtain⟨W,⟨m0,w0⟩,turn⟩:=h
 refine wpAny_While (codeAny_whileLoop (fun n s'=>∃σ' H',Inv X pins σ' H' s'∧W n σ' H') ?_ m0 ⟨σ,H,I,w0⟩)
 rintro n s1 ⟨σ1,H1,I1,w1⟩
 refine wpAny_passesOwn hp (thn (hc pins s1 σ1 H1 _ I1 (turn n σ1 H1 w1)) fun b s2 zq9=>?_)
 obtain⟨H2,I2,q2⟩:=zq9
 cases b with
 |true=>
  obtain⟨N,hN,q2⟩:=q2
  rw[if_pos rfl]
  refine wpAny_passesOwn hp (thn (hb pins s2 σ1 H2 _ I2 q2) fun f s3 q3=>?_)
  cases f with
  |next=>
   obtain⟨σ3,H3,I3,n3⟩:=q3
   obtain⟨m',hm,w3⟩:=hN σ3 H3 n3
   exact⟨m',hm,σ3,H3,I3,w3⟩
  |cont=>
   obtain⟨σ3,H3,I3,n3⟩:=q3
   obtain⟨m',hm,w3⟩:=hN σ3 H3 n3
   exact⟨m',hm,σ3,H3,I3,w3⟩
  |brk=>exact q3
  |ret v=>exact q3
 |false=>
  rw[if_neg Bool.false_ne_true]
  exact wpAny_execs_nil ⟨σ1,H2,I2,q2⟩
end
set_option genInjectivity false in
structure It where
 go:Nat→Hp→Prop
 yld:Nat→Hp→V→Hp→Prop
 stop:Nat→Hp→Prop
noncomputable def FpOk(X:Cx)(pins:List (Addr×Obj))(H:Hp)(b:Addr):Prop:=
 H b=none∧b≠X.env.locals∧b∉X.fs∧(b∈X.ex∨X.s₀.heap.objs.size≤b)∧(∀x c,X.env.cells.lookup x=some c→c≠b)∧∀p∈X.pn++pins,p.1≠b
theorem Inv.fpOk{X:Cx}{pins:List (Addr×Obj)}{σ:St}{H H':Hp}{s:Shared}{b:Addr}(I:Inv X pins σ H s)(hb:s.heap.objs.size≤b)(hn:H' b=none):FpOk X pins H' b:=by
 refine⟨hn,Nat.ne_of_gt (Nat.lt_of_lt_of_le I.lt hb),I.nofs hb,.inr (Nat.le_trans I.sz hb),fun x c e z=>?_,fun p hp z=>?_⟩
 ·obtain⟨v,q⟩:=I.cell x c e
  exact absurd (Nat.lt_of_lt_of_le q.lt (by rw[z];exact hb)) (Nat.lt_irrefl _)
 ·exact absurd (Nat.lt_of_lt_of_le (Heap.lt_size (I.pin p hp).1) (by rw[z];exact hb)) (Nat.lt_irrefl _)
structure Turn(P:Program)(w:World)(K:PySem.W.Frag)(tg:Expr)(J:It)(fp:List Addr)(it:Addr)(tn:Nat→Heap→Prop):Prop where
 mem:it∈fp
 obj:∀i h,tn i h→∀b∈fp,∃o,h.get? b=some o∧∀v,o.data≠.cell v
 keep:∀i h h',tn i h→(∀b∈fp,∀o,h.get? b=some o→h'.get? b=some o)→tn i h'
 item:∀(X:Cx),X.prog=P→X.w=w→X.K=K→X.calm=true→∀(i:Nat) (pins:List (Addr×Obj)) (s:Shared) (σ:St) (H:Hp) (E:Value→Shared→Prop),Inv X pins σ H s→(∀b∈fp,FpOk X pins H b)→tn i s.heap→J.go i H→
  wpAny (model P w) X.A (pyNext (.ref it)) (fun r s1=>∃u,r=some u∧
   wpAny (model P w) X.A (letOwnedTupleGo tg (.ref it) u) (fun _ s2=>∃x H',Inv X pins σ H' s2∧RelV x u∧J.yld i H x H'∧tn (i+1) s2.heap∧∀b∈fp,H' b=none) E s1) E s
 done:∀(X:Cx),X.prog=P→X.w=w→X.K=K→X.calm=true→∀(i:Nat) (pins:List (Addr×Obj)) (s:Shared) (σ:St) (H:Hp) (E:Value→Shared→Prop),Inv X pins σ H s→(∀b∈fp,FpOk X pins H b)→tn i s.heap→J.stop i H→
  wpAny (model P w) X.A (pyNext (.ref it)) (fun r s1=>r=none∧Inv X pins σ H s1) E s
 self:∀(A:Around) (i:Nat) (s:Shared) (Q:Value→Shared→Prop) (E:Value→Shared→Prop),tn i s.heap→Q (.ref it) s→wpAny (model P w) A (pyIter (.ref it)) Q E s
noncomputable abbrev TI:=St→Hp→(It→Hp→Prop)→Prop
noncomputable def PIE(X:Cx)(pins:List (Addr×Obj))(σ:St)(tg:Expr)(R:It→Hp→Prop)(itv:Value)(s2:Shared):Prop:=
 ∃(it:Addr) (fp:List Addr) (tn:Nat→Heap→Prop) (J:It) (H':Hp),itv= .ref it∧Inv X pins σ H' s2∧Turn X.prog X.w X.K tg J fp it tn∧tn 0 s2.heap∧(∀b∈fp,FpOk X pins H' b)∧R J H'
noncomputable def PI(X:Cx)(tg iter:Expr)(wi:TI):Prop:=
 ∀(pins:List (Addr×Obj)) (s:Shared) (σ:St) (H:Hp) (R:It→Hp→Prop),Inv X pins σ H s→wi σ H R→
  wpAny (model X.prog X.w) X.A (eval iter X.env) (fun v s1=>wpAny (model X.prog X.w) X.A (pyIter v) (PIE X pins σ tg R) X.xe s1) X.xe s
theorem Zny{M:Model}{A:Around}{E:Value→Shared→Prop}{s:Shared}{tg:Expr}{it:Addr}{u:Value}{o:Obj}{n:String}{vs:Array Value}{Q:Unit→Shared→Prop}(ho:s.heap.get? it=some o)(hc:o.cls= .type n)(hd:o.data= .fields vs)
    (hn:["enumerate","zip","dict_itemiterator","dict_reverseitemiterator","odict_iterator","itertools.zip_longest","itertools.pairwise"].contains n=false) (hQ:Q () s):wpAny M A (letOwnedTupleGo tg (.ref it) u) Q E s:=by
  unfold letOwnedTupleGo
  cases tg<;> first
    |exact wpAny_pure hQ
    | (cases u<;> first
        |exact wpAny_pure hQ
        | (refine wpAny_bind (wpAny_load ho ?_)
           rw[hc,hd]
           show wpAny M A (if(["enumerate","zip","dict_itemiterator","dict_reverseitemiterator","odict_iterator","itertools.zip_longest","itertools.pairwise"].contains n&&vs[0]? ==some (rawInt _))=true then _ else _) Q E s
           rw[if_neg (by intro h;rw[hn,Bool.false_and]at h;cases h)]
           exact wpAny_pure hQ))
noncomputable def Itl(K:PySem.W.Frag)(a:Addr):It:=
 ⟨fun i H=>∃xs x,SqL K H a xs∧xs[i]? =some x,fun i H x H'=>H'=H∧∀xs,SqL K H a xs→xs[i]? =some x,fun i H=>∃xs,SqL K H a xs∧xs.length≤i⟩
noncomputable def Itt(K:PySem.W.Frag)(a:Addr):It:=
 ⟨fun i H=>∃xs x,SqT K H a xs∧xs[i]? =some x,fun i H x H'=>H'=H∧∀xs,SqT K H a xs→xs[i]? =some x,fun i H=>∃xs,SqT K H a xs∧xs.length≤i⟩
noncomputable def Itr(lo:Int)(n:Nat):It:=⟨fun i _=>i<n,fun i H x H'=>H'=H∧x= .int (lo+i),fun i _=>n≤i⟩
theorem Zk7{P:Program}{w:World}{K:PySem.W.Frag}{tg:Expr}(a it:Addr):Turn P w K tg (Itl K a) [it] it (fun i h=>h.IsListIter it a i)where
 mem:=by simp
 obj:=fun i h st b hb=>by
  have e:b=it:=by simpa using hb
  subst e
  obtain⟨o,e,c,d⟩:=st
  exact⟨o,e,fun v z=>by rw[d]at z;cases z⟩
 keep:=fun i h h' st k=>st.at fun o e=>k it (by simp) o e
 item:=by
  intro X hP hw hK hc i pins s σ H E I hf st hg
  subst hP hw hK
  obtain⟨xs,x,hq,hx⟩:=hg
  obtain⟨its,rv,p,hz⟩:=I.list hq
  obtain⟨u,hu,ru⟩:=rv.get hx
  obtain⟨f0,f1,f2,f3,f4,f5⟩:=hf it (by simp)
  refine wpAny_pyNext_list_item st p.isList (x:=u) (by simpa using hu) fun h' st' sb=>?_
  have I1:Inv X pins σ H {s with heap:=h'}:=I.turned (t':=s.toks) (fun b o hb e=>(sb.2 b hb).trans e) f0 f1 f3 f4 f5
  obtain⟨o,e,c,d⟩:=id st'
  exact⟨u,rfl,Zny (s:={s with heap:=h'}) e c d (by decide) ⟨x,H,I1,ru,⟨rfl,fun ys hy=>by rw[I.list_inj hy hq];exact hx⟩,st',fun b hb=>(hf b hb).1⟩⟩
 done:=by
  intro X hP hw hK hc i pins s σ H E I hf st hg
  subst hP hw hK
  obtain⟨xs,hq,hx⟩:=hg
  obtain⟨its,rv,p,hz⟩:=I.list hq
  obtain⟨f0,f1,f2,f3,f4,f5⟩:=hf it (by simp)
  have hl:=rv.length
  exact wpAny_pyNext_list_end (I.ok.hd hc) st p.isList (by simp;omega) fun h' eb=>⟨rfl,I.turned (t':=s.toks) (fun b o hb e=>eb b o hb e) f0 f1 f3 f4 f5⟩
 self:=fun _ _ _ _ _ st h=>wpAny_pyIter_listiter st h
theorem Zka{P:Program}{w:World}{K:PySem.W.Frag}{tg:Expr}(a it:Addr):Turn P w K tg (Itt K a) [it] it (fun i h=>h.IsTupleIter it a i)where
 mem:=by simp
 obj:=fun i h st b hb=>by
  have e:b=it:=by simpa using hb
  subst e
  obtain⟨o,e,c,d⟩:=st
  exact⟨o,e,fun v z=>by rw[d]at z;cases z⟩
 keep:=fun i h h' st k=>st.at fun o e=>k it (by simp) o e
 item:=by
  intro X hP hw hK hc i pins s σ H E I hf st hg
  subst hP hw hK
  obtain⟨xs,x,hq,hx⟩:=hg
  obtain⟨its,rv,p,hz⟩:=I.tuple hq
  obtain⟨u,hu,ru⟩:=rv.get hx
  obtain⟨f0,f1,f2,f3,f4,f5⟩:=hf it (by simp)
  refine wpAny_pyNext_tuple_item st (show s.heap.IsTuple a its.toArray from p) (x:=u) (by simpa using hu) fun h' st' sb=>?_
  have I1:Inv X pins σ H {s with heap:=h'}:=I.turned (t':=s.toks) (fun b o hb e=>(sb.2 b hb).trans e) f0 f1 f3 f4 f5
  obtain⟨o,e,c,d⟩:=id st'
  exact⟨u,rfl,Zny (s:={s with heap:=h'}) e c d (by decide) ⟨x,H,I1,ru,⟨rfl,fun ys hy=>by rw[I.tuple_inj hy hq];exact hx⟩,st',fun b hb=>(hf b hb).1⟩⟩
 done:=by
  intro X hP hw hK hc i pins s σ H E I hf st hg
  subst hP hw hK
  obtain⟨xs,hq,hx⟩:=hg
  obtain⟨its,rv,p,hz⟩:=I.tuple hq
  obtain⟨f0,f1,f2,f3,f4,f5⟩:=hf it (by simp)
  have hl:=rv.length
  exact wpAny_pyNext_tuple_end (I.ok.hd hc) st (show s.heap.IsTuple a its.toArray from p) (by simp;omega) fun h' eb=>⟨rfl,I.turned (t':=s.toks) (fun b o hb e=>eb b o hb e) f0 f1 f3 f4 f5⟩
 self:=fun _ _ _ _ _ st h=>wpAny_pyIter_tupleiter st h
theorem Zkb{P:Program}{w:World}{K:PySem.W.Frag}{tg:Expr}(it:Addr)(lo:Int)(n:Nat):Turn P w K tg (Itr lo n) [it] it (fun i h=>IsRangeIter h it (lo+(i:Nat)*1) ((n:Int)- (i:Nat)) 1)where
 mem:=by simp
 obj:=fun i h st b hb=>by
  have e:b=it:=by simpa using hb
  subst e
  exact⟨_,st,fun v z=>by
   have z':Data.fields _=Data.cell v:=z
   cases z'⟩
 keep:=fun i h h' st k=>k it (by simp) _ st
 item:=by
  intro X hP hw hK hc i pins s σ H E I hf st hg
  subst hP hw hK
  obtain⟨f0,f1,f2,f3,f4,f5⟩:=hf it (by simp)
  have W:=Walks.range (prog:=X.prog) (w:=X.w) (I.ok.hd hc) it lo 1 n
  refine W.item i s _ _ hg st fun v h' tk hv st' kk=>?_
  obtain⟨t,rfl⟩:=hv
  have I1:Inv X pins σ H {s with heap:=h',toks:=tk}:=I.turned (fun b o hb e=>kk b o (by simpa using hb) e) f0 f1 f3 f4 f5
  refine⟨_,rfl,Zny (s:={s with heap:=h',toks:=tk}) (n:="range_iterator") st' rfl rfl (by decide) ⟨.int (lo+i),H,I1,⟨t,?_⟩,⟨rfl,rfl⟩,st',fun b hb=>(hf b hb).1⟩⟩
  rw[Int.mul_one]
 done:=by
  intro X hP hw hK hc i pins s σ H E I hf st hg
  subst hP hw hK
  obtain⟨f0,f1,f2,f3,f4,f5⟩:=hf it (by simp)
  exact wpAny_pyNext_range_end (I.ok.hd hc) st (by have:n≤i:=hg;omega) fun h' eb=>⟨rfl,I.turned (t':=s.toks) (fun b o hb e=>eb b o hb e) f0 f1 f3 f4 f5⟩
 self:=fun _ _ _ _ _ st h=>wpAny_pyIter_rangeiter st h
end L2
namespace L2
open PySem PySem.Spec PyProof.Rows
section
variable{X:Cx}{tg:Expr}
noncomputable def Z1n(K:PySem.W.Frag)(tl:TE):TI:=fun σ H R=>tl σ H fun x H1=>∃a,x= .ref a∧(∃xs,SqL K H1 a xs)∧R (Itl K a) H1
noncomputable def iTup(K:PySem.W.Frag)(tl:TE):TI:=fun σ H R=>tl σ H fun x H1=>∃a,x= .ref a∧(∃xs,SqT K H1 a xs)∧R (Itt K a) H1
theorem Znz{pins:List (Addr×Obj)}{σ:St}{H:Hp}{s:Shared}{R:It→Hp→Prop}{E:Value→Shared→Prop}{lo hi:Int}{t u v:Tok}{tk:Nat}(I:Inv X pins σ H s)(h1:-(2^62)≤lo)(h2:lo<2^62)(h3:-(2^62)≤hi)(h4:hi<2^62)
  (q:R (Itr lo (hi- lo).toNat) H):wpAny (model X.prog X.w) X.A (pyIter (.ref s.heap.objs.size)) (PIE X pins σ tg R) E {s with heap:=s.heap.push {cls:=.type "range",data:=.fields #[.int lo t,.int hi u,.int 1 v]},toks:=tk}:=by
 refine wpAny_pyIter_range (IsRange.new ..) (small_one h1 h2 h3 h4) ?_
 have I1:Inv X pins σ H {s with heap:=s.heap.push {cls:=.type "range",data:=.fields #[.int lo t,.int hi u,.int 1 v]},toks:=tk}:=I.kept fun b o e=>Heap.get?_push_of_some _ e
 refine⟨(s.heap.push {cls:=.type "range",data:=.fields #[.int lo t,.int hi u,.int 1 v]}).objs.size,[(s.heap.push {cls:=.type "range",data:=.fields #[.int lo t,.int hi u,.int 1 v]}).objs.size],_,_,H,rfl,
  I1.kept (t':=tk) fun b o e=>Heap.get?_push_of_some _ e,Zkb _ lo (hi- lo).toNat,?_,fun b hb=>?_,q⟩
 ·have e1:lo+((0:Nat):Int)*1=lo:=by simp
  have e2:(((hi- lo).toNat:Nat):Int)- ((0:Nat):Int)=Builtin.Range.rangeSize lo hi 1:=by rw[rangeSize_one];split<;> omega
  show IsRangeIter _ _ (lo+((0:Nat):Int)*1) ((((hi- lo).toNat:Nat):Int)- ((0:Nat):Int)) 1
  rw[e1,e2]
  exact Heap.get?_push_size _ rfl
 ·have e:b=(s.heap.push {cls:=.type "range",data:=.fields #[.int lo t,.int hi u,.int 1 v]}).objs.size:=by simpa using hb
  subst e
  exact I1.fpOk (Nat.le_refl _) (I1.hok.fresh (Nat.le_refl _))
noncomputable def Zt5(ta:TA):TI:=fun σ H R=>ta σ H fun vs H1=>∃j:Int,vs=[.int j]∧-(2^62)≤j∧j<2^62∧R (Itr 0 j.toNat) H1
noncomputable def Z1o(ta:TA):TI:=fun σ H R=>ta σ H fun vs H1=>∃i j:Int,vs=[.int i,.int j]∧(-(2^62)≤i∧i<2^62∧-(2^62)≤j∧j<2^62)∧R (Itr i (j- i).toNat) H1
theorem Zk8{a:Expr}{ta:TA}{p pos:Pos}(hg:Gl X "range")(hm:X.mg "range"=none)(ha:PA X [a] ta)(hs:starEach [a] X.env=[(false,eval a X.env)]:=by rfl):PI X tg (.Call (.Name "range" p) [a] [] pos) (Zt5 ta):=by
 intro pins s σ H R I h
 refine Call_ (Zd4 I hg hm boot_range (PyProof.Rows.callWith_type1 (thn (ha pos pins s σ H _ I h) fun us s1 ⟨vs,H1,I1,r1,q1⟩=>?_) hs rfl))
 obtain⟨j,e,q1,q2,q⟩:=q1
 subst e
 cases r1 with
 |cons r rr=>
  cases rr
  obtain⟨t,rfl⟩:=r
  exact call_range_1 (Znz I1 (by omega) (by omega) q1 q2 (by simpa using q))
noncomputable def tFor(wi:TI)(g:TG)(tb:TS):TS:=fun D σ H=>wi σ H fun J H1=>∃W:Nat→Nat→St→Hp→Prop,(∃m,W 0 m σ H1)∧∀i m σ H,W i m σ H→
 (J.stop i H∧D.nx σ H)∨(J.go i H∧∃N:St→Hp→Prop,(∀σ' H',N σ' H'→∃m',m'<m∧W (i+1) m' σ' H')∧∀x H',J.yld i H x H'→g x σ H' fun σ2 H2=>tb {D with nx:=N,ct:=N,bk:=D.nx} σ2 H2)
noncomputable def Zgg(fp:List Addr)(h:Heap):List (Addr×Obj):=fp.filterMap fun b=>(h.get? b).map fun o=>(b,o)
theorem Zca{fp:List Addr}{h:Heap}{b:Addr}{o:Obj}(hb:b∈fp)(e:h.get? b=some o):(b,o)∈Zgg fp h:=List.mem_filterMap.mpr ⟨b,hb,by rw[e];rfl⟩
theorem Zk9{fp:List Addr}{h:Heap}{p:Addr×Obj}(hp:p∈Zgg fp h):p.1∈fp∧h.get? p.1=some p.2:=by
 obtain⟨b,hb,e⟩:=List.mem_filterMap.mp hp
 cases q:h.get? b with
 |none=>rw[q]at e;cases e
 |some o=>
  rw[q]at e
  have e':(b,o)=p:=Option.some.inj e
  subst e'
  exact⟨hb,q⟩
theorem Inv.pinned{pins:List (Addr×Obj)}{σ:St}{H:Hp}{s:Shared}{fp:List Addr}(I:Inv X pins σ H s)(hf:∀b∈fp,FpOk X pins H b)(ho:∀b∈fp,∃o,s.heap.get? b=some o∧∀v,o.data≠.cell v):Inv X (pins++Zgg fp s.heap) σ H s:=
 I.pins_of fun p hp=>(List.mem_append.mp hp).elim (fun z=>I.pin p (List.mem_append_right _ z)) fun z=>by
  obtain⟨hb,e⟩:=Zk9 z
  obtain⟨f0,f1,f2,_⟩:=hf p.1 hb
  obtain⟨o,e',d⟩:=ho p.1 hb
  rw[e]at e';cases e'
  exact⟨e,f0,f1,f2,d⟩
theorem Inv.unpinned{pins pl:List (Addr×Obj)}{σ:St}{H:Hp}{s:Shared}(I:Inv X (pins++pl) σ H s):Inv X pins σ H s:=I.pins_of fun p hp=>I.pin p (List.mem_append_right _ (List.mem_append_left _ hp))
theorem Zt6 {iter : Expr} {body : List Stmt} {wi : TI} {g : TG} {tb : TS} {pos : Pos} (hp : PassesOwn (model X.prog X.w) X.A X.env X.xe) (hc : X.calm = true) (hi : PI X tg iter wi) (hg : PG X tg g) (hb : PSs X body tb)
    (hs : ∀ x, foldedSetIterable iter X.env x = pure x := by intro _; rfl) : PS X (.For tg iter body [] pos) (tFor wi g tb) := by
  intro pins s σ H D I h
  refine wpAny_For (thn (hi pins s σ H _ I h) fun v s1 h1 => thn h1 fun itv s2 h2 => ?_) hs
  obtain ⟨it, fp, tn, J, H2, e, I2, T, st2, f2, W, ⟨m0, w0⟩, turn⟩ := h2
  subst e
  -- what stays true of the iterator's objects through the loop
  have stat : ∀ {H' : Hp}, (∀ b ∈ fp, H' b = none) → ∀ b ∈ fp, FpOk X pins H' b := fun hn b hb => ⟨hn b hb, (f2 b hb).2⟩
  refine codeAny_forLoop_any (fun n s' => ∃ i σ' H', Inv X pins σ' H' s' ∧ tn i s'.heap ∧ (∀ b ∈ fp, H' b = none) ∧ W i n σ' H') ?_ m0 ⟨0, σ, H2, I2, st2, fun b hb => (f2 b hb).1, w0⟩
  rintro n s3 ⟨i, σ3, H3, I3, st3, fr3, w3⟩
  rcases turn i n σ3 H3 w3 with ⟨stop, qn⟩ | ⟨go, N, hN, step⟩
  · refine wpAny_passesOwn hp (thn (T.done X rfl rfl rfl hc i pins s3 σ3 H3 X.xe I3 (stat fr3) st3 stop) fun r s4 ⟨hr, I4⟩ => ?_)
    subst hr
    exact wpAny_execs_nil ⟨σ3, H3, I4, qn⟩
  · refine wpAny_passesOwn hp (thn (T.item X rfl rfl rfl hc i pins s3 σ3 H3 X.xe I3 (stat fr3) st3 go) fun r s4 ⟨u, hr, h4⟩ => ?_)
    subst hr
    refine wpAny_passesOwn hp (thn h4 fun _ s5 zq9 => ?_)
    obtain ⟨x, H5, I5, r5, y5, st5, fr5⟩ := zq9
    have I5' := I5.pinned (stat fr5) (T.obj _ _ st5)
    refine wpAny_passesOwn hp (thn (hg _ s5 σ3 H5 x u _ I5' r5 (step x H5 y5)) fun _ s6 zq9 => ?_)
    obtain ⟨σ6, H6, I6, q6⟩ := zq9
    refine wpAny_passesOwn hp (thn (hb _ s6 σ6 H6 _ I6 q6) fun f s7 q7 => ?_)
    have again : ∀ {σ7 : St} {H7 : Hp}, Inv X (pins ++ Zgg fp s5.heap) σ7 H7 s7 → N σ7 H7 → ∃ m, m < n ∧ ∃ i σ' H', Inv X pins σ' H' s7 ∧ tn i s7.heap ∧ (∀ b ∈ fp, H' b = none) ∧ W i m σ' H' := fun {σ7 H7} I7 n7 => by
      obtain ⟨m', hm, w7⟩ := hN σ7 H7 n7
      refine ⟨m', hm, i + 1, σ7, H7, I7.unpinned, T.keep _ _ _ st5 fun b hb o e => (I7.pin (b, o) (List.mem_append_right _ (List.mem_append_right _ (Zca hb e)))).1, fun b hb => ?_, w7⟩
      obtain ⟨o, e, d⟩ := T.obj _ _ st5 b hb
      exact (I7.pin (b, o) (List.mem_append_right _ (List.mem_append_right _ (Zca hb e)))).2.1
    cases f with
    | next => obtain ⟨σ7, H7, I7, n7⟩ := q7; exact again I7 n7
    | cont => obtain ⟨σ7, H7, I7, n7⟩ := q7; exact again I7 n7
    | brk => obtain ⟨σ7, H7, I7, q7⟩ := q7; exact ⟨σ7, H7, I7.unpinned, q7⟩
    | ret v => obtain ⟨x7, σ7, H7, I7, r7, q7⟩ := q7; exact ⟨x7, σ7, H7, I7.unpinned, r7, q7⟩
end
end L2
namespace L2
open PySem PySem.Spec PyProof.Rows
noncomputable abbrev R2:=V→V→Hp→VK→Prop
noncomputable def OpR(X:Cx)(f:Value→Value→Sem Value)(r:R2):Prop:=
 ∀(pins:List (Addr×Obj)) (s:Shared) (σ:St) (H:Hp) (x y:V) (v u:Value) (Q:VK),Inv X pins σ H s→RelV x v→RelV y u→r x y H Q→
  wpAny (model X.prog X.w) X.A (f v u) (EP X pins σ Q) X.xe s
noncomputable def UnR(X:Cx)(f:Value→Sem Value)(r:V→Hp→VK→Prop):Prop:=
 ∀(pins:List (Addr×Obj)) (s:Shared) (σ:St) (H:Hp) (x:V) (v:Value) (Q:VK),Inv X pins σ H s→RelV x v→r x H Q→
  wpAny (model X.prog X.w) X.A (f v) (EP X pins σ Q) X.xe s
noncomputable def Zdu(X:Cx)(f:Value)(r:List V→Hp→VK→Prop):Prop:=
 ∀(pins:List (Addr×Obj)) (s:Shared) (σ:St) (H:Hp) (xs:List V) (us:List Value) (Q:VK),Inv X pins σ H s→Vals xs us→r xs H Q→
  wpAny (model X.prog X.w) X.A (call f us) (EP X pins σ Q) X.xe s
noncomputable def TruR(X:Cx)(r:V→Hp→(Bool→Hp→Prop)→Prop):Prop:=
 ∀(pins:List (Addr×Obj)) (s:Shared) (σ:St) (H:Hp) (x:V) (v:Value) (Q:Bool→Hp→Prop),Inv X pins σ H s→RelV x v→r x H Q→
  wpAny (model X.prog X.w) X.A (truthy v) (TP X pins σ Q) X.xe s
noncomputable def tOp(r:R2)(ta tb:TE):TE:=fun σ H Q=>ta σ H fun x H1=>tb σ H1 fun y H2=>r x y H2 Q
noncomputable def tUn(r:V→Hp→VK→Prop)(ta:TE):TE:=fun σ H Q=>ta σ H fun x H1=>r x H1 Q
noncomputable def rI(C:Int→Int→Prop)(g:Int→Int→V):R2:=fun x y H Q=>∃i j,x= .int i∧y= .int j∧C i j∧Q (g i j) H
noncomputable def rI0(g:Int→Int→V):R2:=fun x y H Q=>∃i j,x= .int i∧y= .int j∧Q (g i j) H
noncomputable def rU(g:Int→V):V→Hp→VK→Prop:=fun x H Q=>∃i,x= .int i∧Q (g i) H
section
variable{X:Cx}{a b c:Expr}{ta tb tc:TE}{pos:Pos}
theorem binT(ha:PE X a ta)(hb:PE X b tb){pins:List (Addr×Obj)}{s:Shared}{σ:St}{H:Hp}{R:V→V→Hp→Prop}(I:Inv X pins σ H s)
  (h:ta σ H fun x H1=>tb σ H1 fun y H2=>R x y H2) {Q:Value→Shared→Prop} {f:Value→Value→Sem Value}
  (hf:∀v u s2 x y H2,Inv X pins σ H2 s2→RelV x v→RelV y u→R x y H2→wpAny (model X.prog X.w) X.A (f v u) Q X.xe s2):
  wpAny (model X.prog X.w) X.A (eval a X.env) (fun v s₁=>wpAny (model X.prog X.w) X.A (eval b X.env) (fun u s₂=>wpAny (model X.prog X.w) X.A (f v u) Q X.xe s₂) X.xe s₁) X.xe s:=by
 refine thn (ha pins s σ H _ I h) fun v s1 zq9=>?_
 obtain⟨x,H1,I1,r1,q1⟩:=zq9
 refine thn (hb pins s1 σ H1 _ I1 q1) fun u s2 zq9=>?_
 obtain⟨y,H2,I2,r2,q2⟩:=zq9
 exact hf v u s2 x y H2 I2 r1 r2 q2
theorem Zxi{op:Operator}{r:R2}(ho:OpR X (binaryOp op) r)(ha:PE X a ta)(hb:PE X b tb):PE X (.BinOp a op b pos) (tOp r ta tb):=by
 intro pins s σ H Q I h
 exact wpAny_BinOp (binT ha hb I h fun v u s2 x y H2 I2 rx ry q=>ho pins s2 σ H2 x y v u Q I2 rx ry q)
theorem Zxj{op:UnaryOp}{r:V→Hp→VK→Prop}(ho:UnR X (unaryOp op) r)(ha:PE X a ta):PE X (.UnaryOp op a pos) (tUn r ta):=by
 intro pins s σ H Q I h
 exact UnaryOp_ (thn (ha pins s σ H _ I h) fun v s1 ⟨x,H1,I1,r1,q1⟩=>ho pins s1 σ H1 x v Q I1 r1 q1)
theorem opI{f:Value→Value→Sem Value}{C:Int→Int→Prop}{g:Int→Int→Int}
  (rule:∀(i j:Int) (t u:Tok) (s:Shared) (Q:Value→Shared→Prop) (E:Value→Shared→Prop),C i j→Q (.int (g i j) s.toks) {s with toks:=s.toks+1}→wpAny (model X.prog X.w) X.A (f (.int i t) (.int j u)) Q E s):
  OpR X f (rI C fun i j=>.int (g i j)):=by
 intro pins s σ H x y v u Q I rx ry h
 obtain⟨i,j,rfl,rfl,hc,q⟩:=h
 obtain⟨t,rfl⟩:=rx
 obtain⟨t',rfl⟩:=ry
 exact rule i j t t' s _ _ hc ⟨.int (g i j),H,I.tok _,⟨_,rfl⟩,q⟩
theorem opI0{f:Value→Value→Sem Value}{g:Int→Int→Int}
  (rule:∀(i j:Int) (t u:Tok) (s:Shared) (Q:Value→Shared→Prop) (E:Value→Shared→Prop),Q (.int (g i j) s.toks) {s with toks:=s.toks+1}→wpAny (model X.prog X.w) X.A (f (.int i t) (.int j u)) Q E s):
  OpR X f (rI0 fun i j=>.int (g i j)):=by
 intro pins s σ H x y v u Q I rx ry h
 obtain⟨i,j,rfl,rfl,q⟩:=h
 obtain⟨t,rfl⟩:=rx
 obtain⟨t',rfl⟩:=ry
 exact rule i j t t' s _ _ ⟨.int (g i j),H,I.tok _,⟨_,rfl⟩,q⟩
theorem opB0{f:Value→Value→Sem Value}{g:Int→Int→Bool}
  (rule:∀(i j:Int) (t u:Tok) (s:Shared) (Q:Value→Shared→Prop) (E:Value→Shared→Prop),Q (.bool (g i j)) s→wpAny (model X.prog X.w) X.A (f (.int i t) (.int j u)) Q E s):
  OpR X f (rI0 fun i j=>.bl (g i j)):=by
 intro pins s σ H x y v u Q I rx ry h
 obtain⟨i,j,rfl,rfl,q⟩:=h
 obtain⟨t,rfl⟩:=rx
 obtain⟨t',rfl⟩:=ry
 exact rule i j t t' s _ _ ⟨.bl (g i j),H,I,rfl,q⟩
noncomputable def CDiv(i j:Int):Prop:=0<j∧j<1073741824
noncomputable def Z1p(i j:Int):Prop:=j≠0∧j.natAbs<1073741824
noncomputable def CPow(i j:Int):Prop:=0≤j∧j≤1000000∧i.natAbs<2^64
noncomputable def CMul(i j:Int):Prop:=(-(2^64)<i∧i<2^64)∨(-(2^64)<j∧j<2^64)
theorem CMul.ok{i j:Int}(h:CMul i j):IntMulOk i j:=by
 rcases h with⟨h1,h2⟩|⟨h1,h2⟩
 ·exact .of_left (intBits_le_64 h1 h2)
 ·exact .of_right (intBits_le_64 h1 h2)
theorem Zt7:OpR X (binaryOp .Add) (rI0 fun i j=>.int (i+j)):=opI0 fun _ _ _ _ _ _ _ q=>add_int q
theorem Zt8:OpR X (binaryOp .Sub) (rI0 fun i j=>.int (i- j)):=opI0 fun _ _ _ _ _ _ _ q=>sub_int q
theorem Zt9:OpR X (binaryOp .Mult) (rI CMul fun i j=>.int (i*j)):=opI fun _ _ _ _ _ _ _ hc q=>mul_int q hc.ok
theorem Zq0:OpR X (binaryOp .FloorDiv) (rI CDiv fun i j=>.int (i / j)):=opI fun i j _ _ _ _ _ hc q=>by
 have h1:(0:Int)<j:=hc.1
 have h2:j<1073741824:=hc.2
 exact floordiv_int (by omega) (by rw[Int.fdiv_eq_ediv_of_nonneg i (by omega)];exact q) (.inl (PyProof.noPylong_small (by omega)))
theorem Zua:OpR X (binaryOp .Mod) (rI (fun _ j=>0<j) fun i j=>.int (i % j)):=opI fun i j _ _ _ _ _ hc q=>by
 have h1:(0:Int)<j:=hc
 exact mod_int' (by omega) (by rw[Int.fmod_eq_emod_of_nonneg i (by omega)];exact q)
theorem unI{f:Value→Sem Value}{g:Int→Int}
  (rule:∀(i:Int) (t:Tok) (s:Shared) (Q:Value→Shared→Prop) (E:Value→Shared→Prop),Q (.int (g i) s.toks) {s with toks:=s.toks+1}→wpAny (model X.prog X.w) X.A (f (.int i t)) Q E s):
  UnR X f (rU fun i=>.int (g i)):=by
 intro pins s σ H x v Q I rx h
 obtain⟨i,rfl,q⟩:=h
 obtain⟨t,rfl⟩:=rx
 exact rule i t s _ _ ⟨.int (g i),H,I.tok _,⟨_,rfl⟩,q⟩
theorem Zub:UnR X (unaryOp .USub) (rU fun i=>.int (-i)):=unI fun _ _ _ _ _ q=>neg_int q
end
noncomputable def scal:V→V→Bool
 | .non,.non=>true| .non,.int _=>true| .int _,.non=>true| .non,.bl _=>true| .bl _,.non=>true| .non,.str _=>true| .str _,.non=>true
 | .int _,.int _=>true| .bl _,.bl _=>true| .str _,.str _=>true| .byt _,.byt _=>true
 | .int _,.str _=>true| .str _,.int _=>true| .bl _,.str _=>true| .str _,.bl _=>true
 |_,_=>false
noncomputable def rEq:R2:=fun x y H Q=>scal x y=true∧Q (.bl (decide (x=y))) H
noncomputable def rNe:R2:=fun x y H Q=>scal x y=true∧Q (.bl (!decide (x=y))) H
theorem Zla{i j:Int}:decide (V.int i=V.int j)=(i==j):=by
 rw[Bool.eq_iff_iff]
 simp
theorem Zpr{i j:Bool}:decide (V.bl i=V.bl j)=(i==j):=by
 rw[Bool.eq_iff_iff]
 simp
theorem Zlb{i j:Str}:decide (V.str i=V.str j)=(i==j):=by
 rw[Bool.eq_iff_iff]
 simp
theorem Zlc{i j:Array UInt8}:decide (V.byt i=V.byt j)=(i.toList==j.toList):=by
 rw[Bool.eq_iff_iff]
 cases i
 cases j
 simp
section
variable{X:Cx}{a b c:Expr}{ta tb tc:TE}{pos:Pos}
theorem Zt{pins:List (Addr×Obj)}{σ:St}{H:Hp}{s:Shared}{Q:VK}{k k':Bool}(I:Inv X pins σ H s)(q:Q (.bl k) H)(e:k=k'):EP X pins σ Q (.bool k') s:=by
 subst e
 exact⟨.bl k,H,I,rfl,q⟩
theorem Zuc:OpR X (compareOp .Eq) rEq:=by
 intro pins s σ H x y v u Q I rx ry h
 obtain⟨hs,q⟩:=h
 cases x with
 |non=>
  cases rx
  cases y with
  |non=>cases ry;exact PySem.EqNone.eq_none_none (Zt I q (by simp))
  |bl j=>cases ry;exact PySem.EqNone.eq_none_bool (Zt I q (by simp))
  |int j=>obtain⟨t',rfl⟩:=ry;exact PySem.EqNone.eq_none_int (Zt I q (by simp))
  |str j=>obtain⟨t',rfl⟩:=ry;exact PySem.EqNone.eq_none_str (Zt I q (by simp))
  |_=>exact absurd (show false=true from hs) Bool.false_ne_true
 |bl i=>
  cases rx
  cases y with
  |non=>cases ry;exact PySem.EqNone.eq_bool_none (Zt I q (by simp))
  |bl j=>cases ry;exact eq_bool (Zt I q Zpr)
  |str j=>obtain⟨t',rfl⟩:=ry;exact PySem.EqMixed.eq_bool_str (Zt I q (by simp))
  |_=>exact absurd (show false=true from hs) Bool.false_ne_true
 |int i=>
  obtain⟨t,rfl⟩:=rx
  cases y with
  |non=>cases ry;exact PySem.EqNone.eq_int_none (Zt I q (by simp))
  |int j=>obtain⟨t',rfl⟩:=ry;exact eq_int (Zt I q Zla)
  |str j=>obtain⟨t',rfl⟩:=ry;exact PySem.EqMixed.eq_int_str (Zt I q (by simp))
  |_=>exact absurd (show false=true from hs) Bool.false_ne_true
 |str i=>
  obtain⟨t,rfl⟩:=rx
  cases y with
  |non=>cases ry;exact PySem.EqNone.eq_str_none (Zt I q (by simp))
  |bl j=>cases ry;exact PySem.EqMixed.eq_str_bool (Zt I q (by simp))
  |int j=>obtain⟨t',rfl⟩:=ry;exact PySem.EqMixed.eq_str_int (Zt I q (by simp))
  |str j=>obtain⟨t',rfl⟩:=ry;exact eq_str (Zt I q Zlb)
  |_=>exact absurd (show false=true from hs) Bool.false_ne_true
 |byt i=>
  obtain⟨t,rfl⟩:=rx
  cases y with
  |byt j=>obtain⟨t',rfl⟩:=ry;exact PySem.W.eq_bytes (Zt I q Zlc)
  |_=>exact absurd (show false=true from hs) Bool.false_ne_true
 |_=>cases y<;> exact absurd (show false=true from hs) Bool.false_ne_true
theorem Zxk:OpR X (compareOp .NotEq) rNe:=by
 intro pins s σ H x y v u Q I rx ry h
 obtain⟨hs,q⟩:=h
 cases x with
 |non=>
  cases rx
  cases y with
  |non=>cases ry;exact PySem.EqNone.ne_none_none (Zt I q (by simp))
  |bl j=>cases ry;exact PySem.EqNone.ne_none_bool (Zt I q (by simp))
  |int j=>obtain⟨t',rfl⟩:=ry;exact PySem.EqNone.ne_none_int (Zt I q (by simp))
  |str j=>obtain⟨t',rfl⟩:=ry;exact PySem.EqNone.ne_none_str (Zt I q (by simp))
  |_=>exact absurd (show false=true from hs) Bool.false_ne_true
 |bl i=>
  cases rx
  cases y with
  |non=>cases ry;exact PySem.EqNone.ne_bool_none (Zt I q (by simp))
  |bl j=>cases ry;exact ne_bool (Zt I q (congrArg not Zpr))
  |str j=>obtain⟨t',rfl⟩:=ry;exact PySem.EqMixed.ne_bool_str (Zt I q (by simp))
  |_=>exact absurd (show false=true from hs) Bool.false_ne_true
 |int i=>
  obtain⟨t,rfl⟩:=rx
  cases y with
  |non=>cases ry;exact PySem.EqNone.ne_int_none (Zt I q (by simp))
  |int j=>obtain⟨t',rfl⟩:=ry;exact ne_int (Zt I q (congrArg not Zla))
  |str j=>obtain⟨t',rfl⟩:=ry;exact PySem.EqMixed.ne_int_str (Zt I q (by simp))
  |_=>exact absurd (show false=true from hs) Bool.false_ne_true
 |str i=>
  obtain⟨t,rfl⟩:=rx
  cases y with
  |non=>cases ry;exact PySem.EqNone.ne_str_none (Zt I q (by simp))
  |bl j=>cases ry;exact PySem.EqMixed.ne_str_bool (Zt I q (by simp))
  |int j=>obtain⟨t',rfl⟩:=ry;exact PySem.EqMixed.ne_str_int (Zt I q (by simp))
  |str j=>obtain⟨t',rfl⟩:=ry;exact ne_str (Zt I q (congrArg not Zlb))
  |_=>exact absurd (show false=true from hs) Bool.false_ne_true
 |byt i=>
  obtain⟨t,rfl⟩:=rx
  cases y with
  |byt j=>obtain⟨t',rfl⟩:=ry;exact PySem.W.ne_bytes (Zt I q (congrArg not Zlc))
  |_=>exact absurd (show false=true from hs) Bool.false_ne_true
 |_=>cases y<;> exact absurd (show false=true from hs) Bool.false_ne_true
theorem Zxl:OpR X (compareOp .Lt) (rI0 fun i j=>.bl (decide (i<j))):=opB0 fun _ _ _ _ _ _ _ q=>lt_int q
theorem Zud:OpR X (compareOp .Gt) (rI0 fun i j=>.bl (decide (j<i))):=opB0 fun _ _ _ _ _ _ _ q=>gt_int q
theorem Zxm:OpR X (compareOp .GtE) (rI0 fun i j=>.bl (decide (j≤i))):=opB0 fun _ _ _ _ _ _ _ q=>ge_int q
theorem Zgh:OpR X (compareOp .In) (fun x y H Q=>∃i j,x= .str i∧y= .str j∧Q (.bl (!(Builtin.Str.occurrences j i 0 j.length 1).isEmpty)) H):=by
 intro pins s σ H x y v u Q I rx ry h
 obtain⟨i,j,rfl,rfl,q⟩:=h
 obtain⟨t,rfl⟩:=rx
 obtain⟨t',rfl⟩:=ry
 exact in_str (Zt I q rfl)
theorem Zue:OpR X (compareOp .Is) (fun x y H Q=>y= .non∧Q (.bl (decide (x= .non))) H):=by
 intro pins s σ H x y v u Q I rx ry h
 obtain⟨rfl,q⟩:=h
 cases ry
 refine is_none_gen (Zt I q ?_)
 cases x<;> first
  | (cases rx;rfl)
  | (obtain⟨t,rfl⟩:=rx;rfl)
noncomputable def Z1q:HO→Bool
 | .lst _=>true
 | .ins _ _ _=>true
 |_=>false
theorem OpR.or{f:Value→Value→Sem Value}{r r':R2}(h:OpR X f r)(h':OpR X f r'):OpR X f (fun x y H Q=>r x y H Q∨r' x y H Q):=by
 intro pins s σ H x y v u Q I rx ry q
 rcases q with q|q
 ·exact h pins s σ H x y v u Q I rx ry q
 ·exact h' pins s σ H x y v u Q I rx ry q
theorem Zdn(b:Expr){op:CmpOp}(h:op≠.In:=by decide)(h2:op≠.NotIn:=by decide):behindInMarks op b=false:=by
 have e1:(op==CmpOp.In)=false:=by cases op<;> first|rfl|exact absurd rfl h
 have e2:(op==CmpOp.NotIn)=false:=by cases op<;> first|rfl|exact absurd rfl h2
 cases b<;> simp[behindInMarks,e1,e2]
theorem Zq1{op:CmpOp}{r:R2}(ho:OpR X (compareOp op) r)(ha:PE X a ta)(hb:PE X b tb)(hm:behindInMarks op b=false):PE X (.Compare a [op] [b] pos) (tOp r ta tb):=by
 intro pins s σ H Q I h
 exact wpAny_Compare1 (binT ha hb I h fun v u s2 x y H2 I2 rx ry q=>ho pins s2 σ H2 x y v u Q I2 rx ry q) hm
noncomputable def Zuf(t:TE):TT:=fun σ H Q=>t σ H fun x H'=>∃k,x= .bl k∧Q k H'
theorem Zq2{op:CmpOp}{r:R2}(ho:OpR X (compareOp op) r)(ha:PE X a ta)(hb:PE X b tb)(hm:behindInMarks op b=false):PT X (.Compare a [op] [b] pos) (Zuf (tOp r ta tb)):=by
 intro pins s σ H Q I h
 refine wpAny_isTrue_Compare1 (thn (ha pins s σ H _ I h) fun v s1 ⟨x,H1,I1,r1,q1⟩=>thn (hb pins s1 σ H1 _ I1 q1) fun u s2 ⟨y,H2,I2,r2,q2⟩=>
  thn (ho pins s2 σ H2 x y v u _ I2 r1 r2 q2) fun c s3 ⟨z,H3,I3,r3,k,e,q3⟩=>?_) hm
 subst e
 cases r3
 exact wpAny_truthy_bool ⟨H3,I3,q3⟩
noncomputable def Zz1(r r':R2)(ta tb tc:TE):TE:=fun σ H Q=>ta σ H fun x H1=>tb σ H1 fun y H2=>r x y H2 fun z H3=>∃k,z= .bl k∧
 (if k=true then tc σ H3 fun w' H4=>r' y w' H4 Q else Q (.bl false) H3)
noncomputable def TruV(K:PySem.W.Frag)(x:V)(H:Hp)(k:Bool):Prop:=
 match x with
 | .non=>k=false
 | .bl b=>k=b
 | .int i=>k=(i !=0)
 | .str y=>y.length≤sizeLine∧k=((y.length:Int) !=0)
 | .byt y=>y.size≤sizeLine∧k=((y.size:Int) !=0)
 | .ref p=>(∃xs,SqL K H p xs∧k= !xs.isEmpty)∨(∃xs,SqT K H p xs∧k= !xs.isEmpty)∨∃kvs,HK H p kvs∧k= !kvs.isEmpty
 |_=>False
theorem Ze7:(sizeLine:Nat)<2^63:=by rw[sizeLine_eq];decide
theorem Zkc:OpR X (binaryOp .Add) (fun x y H Q=>∃i j,x= .str i∧y= .str j∧i.length+j.length≤sizeLine∧Q (.str (i++j)) H):=by
 intro pins s σ H x y v u Q I rx ry h
 obtain⟨i,j,rfl,rfl,hz,q⟩:=h
 obtain⟨t,rfl⟩:=rx
 obtain⟨t',rfl⟩:=ry
 exact add_str (fun t' tk=>⟨.str (i++j),H,I.tok _,⟨_,rfl⟩,q⟩) hz
noncomputable def Zwz(b:Expr):Prop:=∀o i,subscripted b false o i=operate [o,i] (getItem o i)
theorem Zey{x:V}{us:List Value}(r:Vals [x] us):∃u,us=[u]∧RelV x u:=by
 cases r with
 |cons r1 r2=>cases r2;exact⟨_,rfl,r1⟩
theorem Zxn{x y:V}{us:List Value}(r:Vals [x,y] us):∃u w',us=[u,w']∧RelV x u∧RelV y w':=by
 cases r with
 |cons r1 r2=>
  cases r2 with
  |cons r3 r4=>cases r4;exact⟨_,_,rfl,r1,r3⟩
theorem Zgi:Zdu X (.type "str") (fun xs H Q=>∃i,xs=[.int i]∧i.natAbs.log2<1920∧Q (.str (toString i)) H):=by
 intro pins s σ H xs us Q I r h
 obtain⟨i,rfl,hz,q⟩:=h
 obtain⟨u,rfl,t,rfl⟩:=Zey r
 exact PySem.P.str_of_int hz ⟨.str _,H,I.tok _,⟨_,rfl⟩,q⟩
noncomputable def LenV(K:PySem.W.Frag)(x:V)(H:Hp)(n:Nat):Prop:=
 match x with
 | .str y=>y.length≤sizeLine∧n=y.length
 | .byt y=>y.size≤sizeLine∧n=y.size
 | .ref p=>(∃xs,SqL K H p xs∧n=xs.length)∨∃xs,SqT K H p xs∧n=xs.length
 |_=>False
end
end L2
namespace L2
open PySem PySem.Spec PyProof.Rows
structure ObjM(h:Heap)(x dx C:Addr)(mA:Str→Option Value):Prop where
 obj:h.get? x=some (PySem.W.instObj C dx)
 ns:h.Ns1 dx mA
 ne:dx≠x
section
variable{prog:Program}{w:World}{A:Around}{E:Value→Shared→Prop}{s:Shared}{K:PySem.W.Frag}{x dx C f:Addr}{mA:Str→Option Value}{name:Str}{v:Value}
end
noncomputable def putF(f:Str)(v:V):List (Str×V)→List (Str×V)
  | []=>[(f,v)]
  | (g,x)::r=>if g=f then(g,v)::r else(g,x)::putF f v r
theorem RelO.some_of{v:V}{o:Option Value}(r:RelO (some v) o):∃u,o=some u∧RelV v u:=by
 cases o with
 |none=>exact(show False from r).elim
 |some u=>exact⟨u,rfl,r⟩
section
variable{P:Program}{w:World}{H H':Hp}{h h':Heap}{a C dx:Addr}{fs fs':List (Str×V)}
end
structure Cls(K:PySem.W.Frag)(C:Addr):Prop where
 pg:PySem.W.plainGet K C Str.empty=true
 hd:PySem.W.hasDictIn K C=true
 po:PySem.W.plainOver K C=true
 sa:PySem.W.findIn K (.ref C) "__setattr__"=some (some (.builtin "object.__setattr__"))
noncomputable def Zld(K:PySem.W.Frag)(C:Addr)(f:Str):Prop:=PySem.W.findIn K (.ref C) f=some none
structure Con(K:PySem.W.Frag)(C:Addr)(f:Str)(v:V)(u:Value):Prop where
 at_:PySem.W.findIn K (.ref C) f=some (some u)
 rel:RelV v u
 get:PySem.W.specialIn K u "__get__"=some none
 cp:PySem.W.copiedNames.contains f=false
structure Meth(K:PySem.W.Frag)(C:Addr)(m:Str)(f:Addr):Prop where
 at_:PySem.W.findIn K (.ref C) m=some (some (.ref f))
 fn:PySem.W.isFn K (.ref f)=true
 kp:PySem.W.keepIn K (.ref f)=true
section
variable{X:Cx}{pins:List (Addr×Obj)}{σ:St}{H:Hp}{s:Shared}{a C dx:Addr}{fs:List (Str×V)}{f:Str}{v:V}{A:Around}{E:Value→Shared→Prop}
end
noncomputable def tFld(K:PySem.W.Frag)(ta:TE)(f:Str):TE:=fun σ H Q=>ta σ H fun x H1=>∃a C dx fs v,x= .ref a∧H1 a=some (.ins C dx fs)∧Cls K C∧Zld K C f∧fs.lookup f=some v∧Q v H1
noncomputable def tCon(K:PySem.W.Frag)(ta:TE)(f:Str):TE:=fun σ H Q=>ta σ H fun x H1=>∃a C dx fs v u,x= .ref a∧H1 a=some (.ins C dx fs)∧Cls K C∧Con K C f v u∧fs.lookup f=none∧Q v H1
noncomputable def sFld(K:PySem.W.Frag)(ta tv:TE)(f:Str):TS:=fun D σ H=>tv σ H fun y H1=>ta σ H1 fun x H2=>∃a C dx fs,x= .ref a∧H2 a=some (.ins C dx fs)∧Cls K C∧Zld K C f∧fs.length<1000∧
 D.nx σ (upd H2 a (.ins C dx (putF f y fs)))
noncomputable def InOp(X:Cx)(op:Operator)(rd:V→V→Hp→VK→Prop):Prop:=
 ∀(pins:List (Addr×Obj)) (s:Shared) (σ:St) (H:Hp) (x y:V) (u v:Value) (Q:VK),Inv X pins σ H s→RelV x u→RelV y v→rd x y H Q→wpAny (model X.prog X.w) X.A (inplaceOp op u v) (EP X pins σ Q) X.xe s
noncomputable def Zxo(K:PySem.W.Frag)(ta tv:TE)(rd:V→V→Hp→VK→Prop)(f:Str):TS:=fun D σ H=>ta σ H fun x H1=>∃a C dx fs v,x= .ref a∧H1 a=some (.ins C dx fs)∧Cls K C∧Zld K C f∧fs.lookup f=some v∧
 tv σ H1 fun y H2=>rd v y H2 fun z H3=>∃dx' fs',H3 a=some (.ins C dx' fs')∧fs'.length<1000∧D.nx σ (upd H3 a (.ins C dx' (putF f z fs')))
section
variable{X:Cx}{o e value:Expr}{f:Str}{pos pos' tpos:Pos}{ta tv:TE}
noncomputable def rAdd:V→V→Hp→VK→Prop:=fun x y H Q=>∃i j,x= .int i∧y= .int j∧Q (.int (i+j)) H
noncomputable def rSub:V→V→Hp→VK→Prop:=fun x y H Q=>∃i j,x= .int i∧y= .int j∧Q (.int (i- j)) H
end
section
variable{X:Cx}{pins:List (Addr×Obj)}{σ:St}{H:Hp}{s:Shared}{A:Around}{E:Value→Shared→Prop}{Q:Value→Shared→Prop}{c:Value}{b:Bool}
inductive TyOf(K:PySem.W.Frag)(H:Hp):V→Value→Prop where
 |non:TyOf K H .non (.type "NoneType")
 |bl (x:Bool):TyOf K H (.bl x) (.type "bool")
 |int (i:Int):TyOf K H (.int i) (.type "int")
 |str (x:Str):TyOf K H (.str x) (.type "str")
 |flt (x:UInt64):TyOf K H (.flt x) (.type "float")
 |lst {a:Addr} {xs:List V} (e:H a=some (.lst xs)):TyOf K H (.ref a) (.type "list")
 |frz {a:Addr} {o:Obj} {xs:List V} (e:H a=some (.frz o (.lst xs))):TyOf K H (.ref a) (.type "list")
 |tup {a:Addr} {xs:List V} (e:H a=some (.tup xs)):TyOf K H (.ref a) (.type "tuple")
 |dK {a:Addr} {kvs:List (Key×V)} {ep:Nat} (e:H a=some (.dK kvs ep)):TyOf K H (.ref a) (.type "dict")
 |dT {a:Addr} {kvs:List (List Key×V)} {ep:Nat} {bs:List Addr} (e:H a=some (.dT kvs ep bs)):TyOf K H (.ref a) (.type "dict")
 |ins {a C dx:Addr} {fs:List (Str×V)} (e:H a=some (.ins C dx fs)) (cl:Cls K C) (ha:PySem.W.findIn K (.ref C) "__class__"=some (some (.builtin "object.__class__")))
   (hn:PySem.W.specialIn K (.builtin "object.__class__") "__get__"=some (some (.builtin "getset_descriptor.__get__"))) (htk:PySem.W.takesIn K (.builtin "object.__class__")=some true)
   (hm:PySem.W.mroIn K C (.type "object")=some true):TyOf K H (.ref a) (.ref C)
end
end L2
namespace L2
open PySem PySem.Spec PyProof.Rows
structure Room(k:Nat)(A:Around):Prop where
 hd:A.handled=none
 dp:A.depth+3*k+5<recursionLimit
 un:A.units+16*k+200<cLine
theorem Room.mono{j k:Nat}{A:Around}(r:Room k A)(h:j≤k):Room j A:=⟨r.hd,by have:=r.dp;omega,by have:=r.un;omega⟩
theorem Room.deeper{k:Nat}{A:Around}(r:Room (k+1) A)(env:Env):Room k (A.deeper env):=
 ⟨r.hd,by have:=r.dp;show A.depth+1+3*k+5<_;omega,by have:=r.un;show A.units+3+16*k+200<_;omega⟩
theorem Room.depth{k:Nat}{A:Around}(r:Room k A):A.depth<recursionLimit:=by have:=r.dp;omega
theorem Room.units{k:Nat}{A:Around}(r:Room k A):A.units+64<cLine:=by have:=r.un;omega
noncomputable def tNil:TA:=fun _ H Q=>Q [] H
noncomputable def Zn0(ta:TE)(tr:TA):TA:=fun σ H Q=>ta σ H fun x H1=>tr σ H1 fun xs H2=>Q (x::xs) H2
section
variable{X:Cx}{e:Expr}{es:List Expr}{te:TE}{t:TA}{pos:Pos}
theorem Zle:PA X [] tNil:=fun _ _ _ _ H Q I h=>Calls.spliced_nil ⟨[],H,I,.nil,h⟩
theorem Zh0(ha:PE X e te)(hr:PA X es t)(hs:starEach (e::es) X.env=(false,eval e X.env)::starEach es X.env:=by rfl):PA X (e::es) (Zn0 te t):=by
 intro pos pins s σ H Q I h
 rw[hs]
 show wpAny _ _ (spliced ((false,eval e X.env)::backTo pos (starEach es X.env))) _ _ s
 refine Calls.spliced_cons (thn (ha pins s σ H _ I h) fun u s1 zq9=>?_)
 obtain⟨x,H1,I1,r1,q1⟩:=zq9
 exact thn (hr pos pins s1 σ H1 _ I1 q1) fun us s2 ⟨xs,H2,I2,r2,q2⟩=>⟨x::xs,H2,I2,.cons r1 r2,q2⟩
noncomputable def tTup(t:TA):TE:=fun σ H Q=>t σ H fun xs H1=>xs.length≤sizeLine∧∀p,H1 p=none→Q (.ref p) (upd H1 p (.tup xs))
noncomputable def tLst(t:TA):TE:=fun σ H Q=>t σ H fun xs H1=>xs.length≤sizeLine∧∀p,H1 p=none→Q (.ref p) (upd H1 p (.lst xs))
theorem Zug{x1} (h:PA X es t):PE X (.Tuple es x1 pos) (tTup t):=by
 intro pins s σ H Q I hq
 refine wpAny_Tuple_spliced (thn (h pos pins s σ H _ I hq) fun us s1 ⟨xs,H1,I1,r,z,q⟩=>⟨by rw[←r.length];exact z,?_⟩)
 have hf:H1 s1.heap.objs.size=none:=I1.hok.fresh (Nat.le_refl _)
 refine⟨.ref s1.heap.objs.size,upd H1 s1.heap.objs.size (.tup xs),I1.laid (t':=s1.toks) (fun b u e=>Heap.get?_push_of_some _ e) (Nat.le_refl _) ?_,rfl,q _ hf⟩
 exact⟨z,us,r,⟨_,Heap.get?_push_size _ rfl,rfl,_,rfl⟩⟩
theorem Zuh(h:PA X es t):PE X (.List es pos) (tLst t):=by
 intro pins s σ H Q I hq
 refine wpAny_List_spliced (thn (h pos pins s σ H _ I hq) fun us s1 ⟨xs,H1,I1,r,z,q⟩=>⟨by rw[←r.length];exact z,?_⟩)
 have hf:H1 s1.heap.objs.size=none:=I1.hok.fresh (Nat.le_refl _)
 refine⟨.ref s1.heap.objs.size,upd H1 s1.heap.objs.size (.lst xs),I1.laid (t':=s1.toks) (fun b u e=>Heap.get?_push_of_some _ e) (Nat.le_refl _) ?_,rfl,q _ hf⟩
 exact⟨z,us,0,r,Heap.get?_push_size _ rfl⟩
end
noncomputable abbrev Sp:=List V→Hp→VK→XK→Prop
noncomputable abbrev CXT:=List Env→Hp→Shared→XK→Value→Shared→Prop
structure Env0(P:Program)(w:World)(K:PySem.W.Frag)(mg:Str→Option Value)(base:Heap)(A:Around)(outer:List Env)(s:Shared)(H:Hp):Prop where
 frames:A.frames=some outer
 mod:Mod K mg base
 bs:∀b o,base.get? b=some o→s.heap.get? b=some o∧H b=none
 bsz:base.objs.size≤s.heap.objs.size
 funs:s.heap.FunFrames base outer
 frf:∀b∈frs outer,H b=none
 hok:HOk P w H s.heap
 bare:AllBare s.gens
noncomputable def CE(outer:List Env)(P:Program)(w:World)(H:Hp)(s:Shared)(Q:VK)(u:Value)(s':Shared):Prop:=
 ∃v H',s'.os=s.os∧AllBare s'.gens∧Un (frs outer) [] H H' s.heap s'.heap∧HOk P w H' s'.heap∧RelV v u∧Q v H'
noncomputable def CR(CX:CXT)(outer:List Env)(P:Program)(w:World)(H:Hp)(s:Shared)(Q:VK)(E:XK)(r:Result)(s':Shared):Prop:=
 match r with
 | .ok (.ret u)=>CE outer P w H s Q u s'
 | .ok _=>False
 | .error e=>CX outer H s E e s'
structure FnOk(P:Program)(w:World)(K:PySem.W.Frag)(mg:Str→Option Value)(base:Heap)(CX:CXT)(k:Nat)(f:Addr)(fd:FuncData)(ps:List Str)(sp:Sp):Prop where
 len:∀vs H Q E,sp vs H Q E→vs.length=ps.length
 run:∀(A:Around) (outer:List Env) (s:Shared) (H:Hp) (args:Args) (us:List Value) (vs:List V) (Q:VK) (E:XK),Room k A→Env0 P w K mg base A outer s H→BindsTo s fd args (ps.zip us)→Vals vs us→sp vs H Q E→
  codeAny (model P w) A (.call (.ref f) args) (CR CX outer P w H s Q E) s
section
variable{X:Cx}{pins:List (Addr×Obj)}{σ:St}{H:Hp}{s s':Shared}
theorem Inv.env0(I:Inv X pins σ H s):Env0 X.prog X.w X.K X.mg X.base X.A X.stack s H:=
 ⟨I.ok.frames,I.ok.mod,I.bs,Nat.le_trans I.ok.bsz I.sz,I.stack,I.stkFree,I.hok,I.bare⟩
theorem Inv.after{Q:VK}{u:Value}(I:Inv X pins σ H s)(h:CE X.stack X.prog X.w H s Q u s'):EP X pins σ Q u s':=by
 obtain⟨v,H',os,bare,un,hok,r,q⟩:=h
 obtain⟨hh,g,d,t,os'⟩:=s'
 obtain rfl:os'=s.os:=os
 exact⟨v,H',I.call (h':=hh) (g':=g) (d':=d) (t':=t) (ch:=[]) un hok bare (fun b z=>absurd z (by simp)),r,q⟩
end
noncomputable def Zui(sp:Sp)(dvs:List V)(E:XK)(t:TA):TE:=fun σ H Q=>t σ H fun vs H1=>sp (vs++dvs) H1 Q E
noncomputable def Z1r(C:Addr)(m:Str)(sp:Sp)(dvs:List V)(E:XK)(ta:TE)(t:TA):TE:=fun σ H Q=>ta σ H fun x H1=>∃a dx fs,x= .ref a∧H1 a=some (.ins C dx fs)∧fs.lookup m=none∧
 t σ H1 fun vs H2=>sp (x::(vs++dvs)) H2 Q E
noncomputable def Z1s(C:Addr)(sp:Sp)(dvs:List V)(E:XK)(t:TA):TE:=fun σ H Q=>t σ H fun vs H1=>∀x dx,H1 x=none→H1 dx=none→dx≠x→
 sp (.ref x::(vs++dvs)) (upd (upd H1 dx (.own x)) x (.ins C dx [])) (fun v H2=>v= .non∧Q (.ref x) H2) E
noncomputable def Zbi(K:PySem.W.Frag)(fd:FuncData)(ps:List Str)(ds:List Value):Prop:=
 ∀(s:Shared) (us:List Value),K.In s.heap→(us++ds).length=ps.length→BindsTo s fd ⟨us,[]⟩ (ps.zip (us++ds))
theorem Zbi.all{K:PySem.W.Frag}{fd:FuncData}{ps:List Str}(h:∀us:List Value,us.length=ps.length→bindArgs fd ⟨us,[]⟩=pure (ps.zip us)):Zbi K fd ps []:=fun s us _ hl=>by
 rw[List.append_nil]at hl⊢
 exact .of_eq (h us hl)
noncomputable def Zlf(CX:CXT)(X:Cx)(E:XK):Prop:=∀(pins:List (Addr×Obj)) (σ:St) (H:Hp) (s:Shared) (e:Value) (s':Shared),Inv X pins σ H s→CX X.stack H s E e s'→X.xe e s'
section
variable{X:Cx}{CX:CXT}{k:Nat}{f C:Addr}{fd:FuncData}{ps:List Str}{sp:Sp}{dvs:List V}{ds:List Value}{E:XK}{x m:Str}{p pos apos:Pos}{e o:Expr}{es:List Expr}{ta:TE}{t:TA}
theorem Zuj{pins:List (Addr×Obj)}{σ:St}{H:Hp}{s:Shared}{Q:VK}{us:List Value}{vs:List V}(F:FnOk X.prog X.w X.K X.mg X.base CX k f fd ps sp)(hr:Room k X.A)(hb:Zbi X.K fd ps ds)(hd:Vals dvs ds)(hx:Zlf CX X E)
  (I:Inv X pins σ H s) (r:Vals vs us) (h:sp (vs++dvs) H Q E):wpAny (model X.prog X.w) X.A (call (.ref f) us) (EP X pins σ Q) X.xe s:=by
 have r2:Vals (vs++dvs) (us++ds):=r.append hd
 have hl:(us++ds).length=ps.length:=by rw[←r2.length];exact F.len _ _ _ _ h
 refine wpAny_call (codeAny_mono (F.run X.A X.stack s H ⟨us,[]⟩ (us++ds) (vs++dvs) Q E hr I.env0 (hb s us I.kIn hl) r2 h) fun r s' hq=>?_)
 cases r with
 |error e=>exact hx pins σ H s e s' I hq
 |ok fl=>
  cases fl with
  |ret u=>exact I.after hq
  |next=>exact False.elim hq
  |brk=>exact False.elim hq
  |cont=>exact False.elim hq
theorem Zq3(F:FnOk X.prog X.w X.K X.mg X.base CX k f fd ps sp)(hr:Room k X.A)(hg:Gl X x)(hm:X.mg x=some (.ref f))(hk:PySem.W.keepIn X.K (.ref f)=true)(hb:Zbi X.K fd ps ds)(hd:Vals dvs ds)(hx:Zlf CX X E)
  (ha:PA X (e::es) t) (hdb:(x==("__debug__":Str))=false:=by decide) (he:starEach (e::es) X.env=(false,eval e X.env)::starEach es X.env:=by rfl) (hpl:(backTo pos (starEach es X.env)).any (·.1)=false:=by rfl):
  PE X (.Call (.Name x p) (e::es) [] pos) (Zui sp dvs E t):=by
 intro pins s σ H Q I h
 refine wpAny_Call_Name_kw (Zk6 I hg hm ?_ hdb)
 refine PySem.W.callWith_K (h₀:=X.base) I.ok.mod.kin hk (thn (ha pos pins s σ H _ I h) fun us s1 ⟨vs,H1,I1,r,q⟩=>⟨I1.kIn,?_⟩) he hpl
 exact Zuj F hr hb hd hx I1 r q
structure Mk(K:PySem.W.Frag)(C f:Addr):Prop where
 makes:PySem.W.makesIn K C=true
 init:PySem.W.findIn K (.ref C) "__init__"=some (some (.ref f))
 fn:PySem.W.isFn K (.ref f)=true
 kp:PySem.W.keepIn K (.ref C)=true
end
noncomputable def PK(X:Cx)(kws:List Keyword)(t:TA):Prop:=
 ∀(pos:Pos) (pins:List (Addr×Obj)) (s:Shared) (σ:St) (H:Hp) (Q:List V→Hp→Prop),Inv X pins σ H s→t σ H Q→wpAny (model X.prog X.w) X.A (evalAll ((backToKw pos (keywordEach kws X.env)).map (·.2))) (AP X pins σ Q) X.xe s
section
variable{X:Cx}{CX:CXT}{k:Nat}{f C:Addr}{fd:FuncData}{ps ks:List Str}{sp:Sp}{E:XK}{x m:Str}{p pos apos kpos:Pos}{e o:Expr}{es:List Expr}{kws:List Keyword}{te ta:TE}{t tk:TA}{nm:Option Str}
structure KBinds(K:PySem.W.Frag)(fd:FuncData)(ps ks:List Str)(g:List Value→List Value→List Value)(gV:List V→List V→List V):Prop where
 to:∀(s:Shared) (us ws:List Value),K.In s.heap→(g us ws).length=ps.length→BindsTo s fd ⟨us,ks.zip ws⟩ (ps.zip (g us ws))
 rel:∀{vs:List V} {us:List Value} {zs:List V} {ws:List Value},Vals vs us→Vals zs ws→Vals (gV vs zs) (g us ws)
noncomputable def Zz2(sp:Sp)(gV:List V→List V→List V)(E:XK)(t tk:TA):TE:=fun σ H Q=>t σ H fun vs H1=>tk σ H1 fun zs H2=>sp (gV vs zs) H2 Q E
variable{g:List Value→List Value→List Value}{gV:List V→List V→List V}
end
structure FnScope(N P:List Str)(sc:Scope):Prop where
 kind:sc.kind= .function
 co:sc.isCoroutine=false
 gen:sc.isGenerator=false
 nd:N.Nodup
 pre:N.take P.length=P
 par:∀x∈P,sc.names.lookup x=some .local∨sc.names.lookup x=some .cell
 nofree:∀y∈sc.names,y.2≠.free
theorem Zgj{kindOf:Str→Option NameKind}{x:Str}:∀{binds:List (Str×Value)} {m:Str→Option Value},(∀v,(x,v)∉binds)→bindL kindOf binds m x=m x
  | [],_,_=>rfl
  | (n,v)::r,m,h=>by
    unfold bindL
    rw[Zgj fun w hw=>h w (List.mem_cons_of_mem _ hw)]
    split
    · have:x≠n:=by rintro rfl;exact h v List.mem_cons_self
      simp[this]
    · rfl
theorem Zgk{kindOf:Str→Option NameKind}{x:Str}:∀{binds:List (Str×Value)} {m:Str→Option Value},(∀v,(x,v)∉binds)→bindC kindOf binds m x=m x
  | [],_,_=>rfl
  | (n,v)::r,m,h=>by
    unfold bindC
    rw[Zgk fun w hw=>h w (List.mem_cons_of_mem _ hw)]
    split
    · rfl
    · have:x≠n:=by rintro rfl;exact h v List.mem_cons_self
      simp[this]
theorem Zgl{kindOf:Str→Option NameKind}{x:Str}{v:Value}:∀{P:List Str} {vs:List Value} {i:Nat} {m:Str→Option Value},P.Nodup→P[i]? =some x→vs[i]? =some v→kindOf x=some .local→
  bindL kindOf (P.zip vs) m x=some v
 | [],_,_,_,_,h,_,_=>by simp at h
 |_::_,[],_,_,_,_,h,_=>by simp at h
 |p::P,w::vs,0,m,nd,h1,h2,hk=>by
  simp at h1 h2;subst h1;subst h2
  show bindL kindOf ((p,w)::P.zip vs) m p=_
  unfold bindL
  rw[Zgj fun v hv=>(List.nodup_cons.mp nd).1 (List.of_mem_zip hv).1,if_pos hk]
  simp
 |p::P,w::vs,i+1,m,nd,h1,h2,hk=>by
  show bindL kindOf ((p,w)::P.zip vs) m x=_
  unfold bindL
  exact Zgl (i:=i) (List.nodup_cons.mp nd).2 (by simpa using h1) (by simpa using h2) hk
theorem Zgm{kindOf:Str→Option NameKind}{x:Str}{v:Value}:∀{P:List Str} {vs:List Value} {i:Nat} {m:Str→Option Value},P.Nodup→P[i]? =some x→vs[i]? =some v→kindOf x≠some .local→
  bindC kindOf (P.zip vs) m x=some v
 | [],_,_,_,_,h,_,_=>by simp at h
 |_::_,[],_,_,_,_,h,_=>by simp at h
 |p::P,w::vs,0,m,nd,h1,h2,hk=>by
  simp at h1 h2;subst h1;subst h2
  show bindC kindOf ((p,w)::P.zip vs) m p=_
  unfold bindC
  rw[Zgk fun v hv=>(List.nodup_cons.mp nd).1 (List.of_mem_zip hv).1,if_neg hk]
  simp
 |p::P,w::vs,i+1,m,nd,h1,h2,hk=>by
  show bindC kindOf ((p,w)::P.zip vs) m x=_
  unfold bindC
  exact Zgm (i:=i) (List.nodup_cons.mp nd).2 (by simpa using h1) (by simpa using h2) hk
noncomputable def Zdv(N:List Str)(vs:List V):St:=vs.map some++List.replicate (N.length- vs.length) none
noncomputable def cxOf(CX:CXT)(P:Program)(w:World)(K:PySem.W.Frag)(mg:Str→Option Value)(base:Heap)(N:List Str)(qual:Str)(scope:Scope)(f:Addr)(cd:Value)(A:Around)(outer:List Env)(s:Shared)(H:Hp)(E:XK):Cx where
 prog:=P
 w:=w
 K:=K
 mg:=mg
 base:=base
 A:=A.deeper (envOfC qual scope s.heap.objs.size f cd)
 N:=N
 s₀:=s
 H₀:=H
 env:=envOfC qual scope s.heap.objs.size f cd
 outer:=outer
 stack:=envOfC qual scope s.heap.objs.size f cd::outer
 ex:=[]
 calm:=true
 fn:=fun _=>true
 pn:=[]
 xe:=fun e s'=>wpAny (model P w) (A.deeper (envOfC qual scope s.heap.objs.size f cd)) (leaving (envOfC qual scope s.heap.objs.size f cd) e) (fun _ s''=>CX outer H s E e s'') (fun e' s''=>CX outer H s E e' s'') s'
theorem Zi3{sc:Scope}{n:Nat}{x:Str}(h:sc.names.lookup x=some .cell):∃c,(cellsFrom n sc.names []).lookup x=some c:=by
 have q:=PySem.W.cellsFrom_some sc.names n [] (.inl h)
 exact Option.isSome_iff_exists.mp q
theorem Zlg{CX:CXT}{P:Program}{w:World}{K:PySem.W.Frag}{mg:Str→Option Value}{base:Heap}{N ps:List Str}{qual:Str}{scope:Scope}{f:Addr}{cd:Value}{A:Around}{outer:List Env}{s s1:Shared}{H:Hp}{E:XK}{us:List Value}{vs:List V}
  (S:FnScope N ps scope) (hd:A.handled=none) (e0:Env0 P w K mg base A outer s H) (hl:vs.length=ps.length) (r:Vals vs us)
  (x:InCallC s s.heap.objs.size (bindL (envOfC qual scope s.heap.objs.size f cd).kindOf (ps.zip us) fun _=>none) (cellsFrom (s.heap.objs.size+1) scope.names []) (bindC (envOfC qual scope s.heap.objs.size f cd).kindOf (ps.zip us) fun _=>none) s1):
  Inv (cxOf CX P w K mg base N qual scope f cd A outer s H E) [] (Zdv N vs) H s1:=by
 have hpl:ps.length≤N.length:=by have:=congrArg List.length S.pre;rw[List.length_take]at this;omega
 obtain⟨h1,tk,rfl,hk⟩:=x.done
 have noA:∀b:Addr,b∉(cxOf CX P w K mg base N qual scope f cd A outer s H E).ex:=fun b z=>absurd (show b∈([]:List Addr)from z) (by simp)
 refine⟨⟨e0.mod,S.kind,rfl,rfl,Nat.le_refl _,fun y z c h1 h2=>?_,fun y hy=>?_,fun y c _ h=>?_,fun _=>hd,Around.frames_deeper e0.frames,.inr ⟨rfl,rfl⟩,fun b z=>absurd z (noA b),e0.bs,e0.bsz,fun b _ _=>noA b,fun b z=>absurd z (noA b),e0.funs,e0.frf⟩,
  rfl,e0.bare,Un.kept hk,⟨_,x.toInCall.ns,fun i y v h1 h2 h3=>?_⟩,fun y c h=>⟨_,x.cell y c h⟩,e0.hok.fresh (Nat.le_refl _),fun y c h=>?_,fun p hp=>absurd (show p∈([]:List (Addr×Obj))from hp) (by simp),e0.hok.kept hk,?_⟩
 ·exact name_of_addr x.apart (PySem.mem_of_lookup h1) (PySem.mem_of_lookup h2)
 ·have hy:scope.names.lookup y=some .cell∨scope.names.lookup y=some .free:=hy
  rcases hy with hy|hy
  ·exact Zi3 hy
  ·exact absurd rfl (S.nofree _ (PySem.mem_of_lookup hy))
 ·exact Nat.le_of_lt (x.above y c (PySem.mem_of_lookup h))
 ·have hi:i<vs.length:=by
   unfold Zdv at h2
   by_cases hi:i<vs.length
   ·exact hi
   ·rw[List.getElem?_append_right (by simpa using hi)]at h2
    rw[List.getElem?_replicate]at h2
    split at h2<;> cases h2
  have ha:vs[i]? =some v:=by
   unfold Zdv at h2
   rw[List.getElem?_append_left (by simpa using hi),List.getElem?_map]at h2
   cases e:vs[i]? with
   |none=>rw[e]at h2;cases h2
   |some a=>rw[e]at h2;cases h2;rfl
  obtain⟨u,hu,rv⟩:=r.get ha
  have hp:ps[i]? =some y:=by
   rw[←S.pre,List.getElem?_take_of_lt (by omega)];exact h1
  have ndP:ps.Nodup:=by rw[←S.pre];exact S.nd.sublist (List.take_sublist _ _)
  refine⟨u,rv,?_⟩
  rcases S.par y (List.mem_of_getElem? hp)with k|k
  ·exact .inl ⟨k,Zgl ndP hp hu k⟩
  ·obtain⟨c,e⟩:=Zi3 (n:=s.heap.objs.size+1) k
   refine .inr ⟨.inl k,c,e,?_⟩
   have q:=x.cell y c e
   rw[Zgm ndP hp hu (by show scope.names.lookup y≠_;rw[k];decide)]at q
   exact q
 ·exact e0.hok.fresh (Nat.le_of_lt (x.above y c (PySem.mem_of_lookup h)))
 ·unfold Zdv
  show _=N.length
  rw[List.length_append,List.length_map,List.length_replicate]
  omega
theorem Zxp{CX:CXT}{P:Program}{w:World}{K:PySem.W.Frag}{mg:Str→Option Value}{base:Heap}{k:Nat}{f:Addr}{name qual:Str}{params:Arguments}{body:List Stmt}{scope:Scope}{dV kV doc pm cdv ct oc:Value}{an od:Option Addr}
  {osl:Array (Option Value)} {N ps:List Str} {sp:Sp} (lk:K.lookup f=some ⟨oc,od,.func (PySem.W.fnOf name qual params body scope dV kV doc pm an cdv ct),osl⟩) (hcd:PySem.W.codeIn K cdv qual=true) (S:FnScope N ps scope)
  (len:∀vs H Q E,sp vs H Q E→vs.length=ps.length)
  (hbody:∀(A:Around) (outer:List Env) (s:Shared) (H:Hp) (vs:List V) (Q:VK) (E:XK),Room k (A.deeper (envOfC qual scope s.heap.objs.size f cdv))→sp vs H Q E→
   ∃t,PSs (cxOf CX P w K mg base N qual scope f cdv A outer s H E) body t∧t {nx:=fun _ H'=>Q .non H',rt:=Q} (Zdv N vs) H):
  FnOk P w K mg base CX (k+1) f (PySem.W.fnOf name qual params body scope dV kV doc pm an cdv ct) ps sp:=by
 refine⟨len,fun A outer s H args us vs Q E hr e0 hb r hsp=>?_⟩
 have hl:=len _ _ _ _ hsp
 have KX:K.In s.heap:=e0.mod.kin.keeps fun b o e=>(e0.bs b o e).1
 have lim:s.heap.NoLimit:=e0.mod.nolimit.keeps fun b o e=>(e0.bs b o e).1
 have hkind:∀y∈ps.zip us,scope.names.lookup y.1=some .local∨(scope.names.lookup y.1=some .cell∧((cellsFrom (s.heap.objs.size+1) scope.names []).lookup y.1).isSome=true):=fun⟨n,v⟩ hy=>by
  rcases S.par n (List.of_mem_zip hy).1 with q|q
  ·exact .inl q
  ·exact .inr ⟨q,PySem.W.cellsFrom_some _ _ _ (.inl q)⟩
 refine codeAny_call_function hr.depth (KX _ _ lk) rfl S.co S.gen rfl (PySem.W.codeRec_of KX hcd) (hb _ _ _ _ ?_)
 refine wpAny_newFunctionEnv_cells S.kind hkind fun env he s1 x=>?_
 subst he
 refine⟨lim.keeps x.toInCall.keep,codeAny_func ?_⟩
 obtain⟨t,ht,hq⟩:=hbody A outer s H vs Q E (hr.deeper _) hsp
 have I:Inv (cxOf CX P w K mg base N qual scope f cdv A outer s H E) [] (Zdv N vs) H s1:=Zlg S hr.hd e0 hl r x
 refine wpAny_mono (ht [] s1 (Zdv N vs) H _ I hq) (fun fl s' hs=>?_) fun e s' hs=>hs
 have fin:∀{σ':St} {H':Hp} {v:V} {u:Value},Inv (cxOf CX P w K mg base N qual scope f cdv A outer s H E) [] σ' H' s'→RelV v u→Q v H'→CE outer P w H s Q u s':=
  fun{σ' H' v u} J rv q=>⟨v,H',J.os,J.bare,J.base,J.hok,rv,q⟩
 cases fl with
 |ret u=>
  obtain⟨v,σ',H',J,rv,q⟩:=hs
  exact fin J rv q
 |next=>
  obtain⟨σ',H',J,q⟩:=hs
  exact fin (v:=V.non) (u:=Value.none) J rfl q
 |brk=>
  obtain⟨_,_,_,q⟩:=hs
  exact False.elim q
 |cont=>
  obtain⟨_,_,_,q⟩:=hs
  exact False.elim q
end L2
namespace L2
open PySem PySem.Spec PyProof.Rows
section
variable{X:Cx}{x:Str}{p pos:Pos}{e:Expr}{es:List Expr}{t:TA}{id T:String}{r:List V→Hp→VK→Prop}
noncomputable def tCB(r:List V→Hp→VK→Prop)(t:TA):TE:=fun σ H Q=>t σ H fun vs H1=>r vs H1 Q
theorem Zn1(hc:Zdu X (.builtin id) r)(hg:Gl X x)(hm:X.mg x=none)(hv:bootBuiltins x=some (.builtin id))(ha:PA X (e::es) t)(hn:x≠"__name__":=by decide)(hdb:(x==("__debug__":Str))=false:=by decide)
  (he:starEach (e::es) X.env=(false,eval e X.env)::starEach es X.env:=by rfl) (hpl:(backTo pos (starEach es X.env)).any (·.1)=false:=by rfl):PE X (.Call (.Name x p) (e::es) [] pos) (tCB r t):=by
 intro pins s σ H Q I h
 refine wpAny_Call_Name_kw (Zd4 I hg hm hv ?_ hn hdb)
 exact PyProof.Rows.callWith_builtin1 (thn (ha pos pins s σ H _ I h) fun us s1 ⟨vs,H1,I1,r1,q1⟩=>hc pins s1 σ H1 vs us Q I1 r1 q1) he hpl
theorem Zlh(hc:Zdu X (.type T) r)(hg:Gl X x)(hm:X.mg x=none)(hv:bootBuiltins x=some (.type T))(ha:PA X (e::es) t)(hn:x≠"__name__":=by decide)(hdb:(x==("__debug__":Str))=false:=by decide)
  (he:starEach (e::es) X.env=(false,eval e X.env)::starEach es X.env:=by rfl) (hpl:(backTo pos (starEach es X.env)).any (·.1)=false:=by rfl):PE X (.Call (.Name x p) (e::es) [] pos) (tCB r t):=by
 intro pins s σ H Q I h
 refine wpAny_Call_Name_kw (Zd4 I hg hm hv ?_ hn hdb)
 exact PyProof.Rows.callWith_type1 (thn (ha pos pins s σ H _ I h) fun us s1 ⟨vs,H1,I1,r1,q1⟩=>hc pins s1 σ H1 vs us Q I1 r1 q1) he hpl
end
end L2
namespace HT
open PySem PyProof.Rows
noncomputable def lexLt:List Int→List Int→Bool
 | [],[]=>false
 | [],_::_=>true
 |_::_,[]=>false
 |x::xs,y::ys=>if x=y then lexLt xs ys else decide (x<y)
theorem Zth(x y:Int)(xs ys:List Int):lexLt (x::xs) (y::ys)=if x=y then lexLt xs ys else decide (x<y):=rfl
theorem Zn2:lexLt [] []=false:=rfl
theorem Znr(y:Int)(ys:List Int):lexLt [] (y::ys)=true:=rfl
theorem Zns(x:Int)(xs:List Int):lexLt (x::xs) []=false:=rfl
section
open PySem.SeqAt
open PySem.AutoSeq1 (wpAny_loadPart')
open PySem.MeetsSeq PySem.MeetsSeq2 PySem.MeetsSeq3
end
section
variable{prog:Program}{w:World}{A:Around}{E:Value→Shared→Prop}{s:Shared}
noncomputable def sIx(n d:Nat):Option Int→Nat
 |none=>d
 |some v=>if v<0 then(v+(n:Int)).toNat else min v.toNat n
theorem Zw0(n d:Nat):sIx n d none=d:=rfl
theorem Zuk(n d:Nat)(hd:d≤n)(o:Option Int):sIx n d o≤n:=by
 cases o with
 |none=>exact hd
 |some v=>
  show(if v<0 then(v+(n:Int)).toNat else min v.toNat n)≤n
  by_cases hv:v<0
  ·rw[if_pos hv];omega
  ·rw[if_neg hv];exact Nat.min_le_right _ _
theorem Zli(v:Int)(n d:Nat):(if v<0 then max (v+(n:Int)) 0 else min v (n:Int))=((sIx n d (some v):Nat):Int):=by
 show(if v<0 then max (v+(n:Int)) 0 else min v (n:Int))=(((if v<0 then(v+(n:Int)).toNat else min v.toNat n):Nat):Int)
 by_cases hv:v<0
 ·simp only[if_pos hv];omega
 ·simp only[if_neg hv];omega
theorem Zkd(lo hi:Option Int)(n:Nat):Builtin.Slice.sliceAdjust lo hi 1 (n:Int)=(((sIx n 0 lo:Nat):Int),((sIx n n hi:Nat):Int)):=by
 have h1:¬((1:Int)<0):=by omega
 unfold Builtin.Slice.sliceAdjust
 simp only[h1,if_false]
 refine Prod.ext ?_ ?_
 ·cases lo with
  |none=>rfl
  |some v=>exact Zli v n 0
 ·cases hi with
  |none=>rfl
  |some v=>exact Zli v n n
theorem Zke(i j:Nat):Builtin.Slice.slicePlaces (i:Int) (j:Int) 1=j- i:=by
 unfold Builtin.Slice.slicePlaces
 have h1:(1:Int) > 0:=by omega
 simp only[h1,if_true,Int.ediv_one]
 split<;> omega
theorem Ze8{v:Value}{o:Option Int}{Q:Option Int→Shared→Prop}(p:IsPart v o)(h:Q o s):wpAny (model prog w) A (Builtin.Slice.slicePartIndex v) Q E s:=by
 cases p with
 |none=>exact slicePart_none h
 |int i t=>exact slicePart_int h
theorem Zdw{sl:Addr}{vl vu:Value}{lo hi:Option Int}{n:Nat}{Q:Int×Int×Nat→Shared→Prop}(hs:s.heap.IsSliceOf sl vl vu .none)(pl:IsPart vl lo)(pu:IsPart vu hi)
  (h:Q (((sIx n 0 lo:Nat):Int),1,sIx n n hi- sIx n 0 lo) s):wpAny (model prog w) A (Builtin.Slice.sliceApplied (.ref sl) (pure (n:Int))) Q E s:=by
 obtain⟨os,hos,hcs,hds⟩:=id hs
 unfold Builtin.Slice.sliceApplied Builtin.Slice.sliceFields
 refine wpAny_bind (wpAny_bind (wpAny_field hos hds (x:=vl) rfl (wpAny_bind (wpAny_field hos hds (x:=vu) rfl (wpAny_bind (wpAny_field hos hds (x:=.none) rfl (wpAny_pure ?_)))))))
 refine wpAny_bind (slicePart_none ?_)
 show wpAny _ _ (if((1:Int)==0)=true then _ else _) _ _ s
 rw[if_neg (by decide)]
 refine wpAny_bind (Ze8 pl (wpAny_bind (Ze8 pu (wpAny_bind (wpAny_pure ?_)))))
 show wpAny _ _ (match Builtin.Slice.sliceAdjust lo hi 1 (n:Int)with| (lo,hi)=>pure (lo,(1:Int),Builtin.Slice.slicePlaces lo hi 1)) _ _ s
 rw[Zkd lo hi n]
 show wpAny _ _ (pure (((sIx n 0 lo:Nat):Int),(1:Int),Builtin.Slice.slicePlaces ((sIx n 0 lo:Nat):Int) ((sIx n n hi:Nat):Int) 1)) _ _ s
 rw[Zke]
 exact wpAny_pure h
theorem Zn3(xs:Array Value)(i k:Nat):((List.range k).filterMap fun(m:Nat)=>xs[((i:Int)+(m:Int)*1).toNat]?).toArray=((xs.toList.drop i).take k).toArray:=by
 have e:(fun(m:Nat)=>xs[((i:Int)+(m:Int)*1).toNat]?)=fun m=>xs[i+m]?:=by
  funext m
  have:((i:Int)+(m:Int)*1).toNat=i+m:=by omega
  rw[this]
 rw[e]
 have:=pick_run xs i k
 rw[List.filterMap_map]at this
 have e2:((fun x=>xs[x]?)∘fun x=>i+x)=fun m=>xs[i+m]?:=rfl
 rw[e2]at this
 rw[this]
theorem getItem_tuple_cut{t sl:Addr}{items:Array Value}{vl vu:Value}{lo hi:Option Int}{Q:Value→Shared→Prop}(ht:IsTup s.heap t items)(hs:s.heap.IsSliceOf sl vl vu .none)(pl:IsPart vl lo)(pu:IsPart vu hi)
  (hw:¬(sIx items.size 0 lo=0∧sIx items.size items.size hi=items.size))
  (h:Q (.ref s.heap.objs.size) {s with heap:=s.heap.push {cls:=.type "tuple",data:=.seq ((items.toList.drop (sIx items.size 0 lo)).take (sIx items.size items.size hi- sIx items.size 0 lo)).toArray}})
  (hsz:items.size≤sizeLine):wpAny (model prog w) A (getItem (.ref t) (.ref sl)) Q E s:=by
 have htake:sizeOk (.seq ((items.toList.drop (sIx items.size 0 lo)).take (sIx items.size items.size hi- sIx items.size 0 lo)).toArray):=by
  show((items.toList.drop (sIx items.size 0 lo)).take (sIx items.size items.size hi- sIx items.size 0 lo)).toArray.size≤sizeLine
  rw[List.size_toArray,List.length_take,List.length_drop,Array.length_toList]
  omega
 have hj:sIx items.size items.size hi≤items.size:=Zuk _ _ (Nat.le_refl _) hi
 obtain⟨os,hos,hcs,hds⟩:=id hs
 have hTs:s.TypeIs (.ref sl) "slice":=⟨os,hos,hcs⟩
 unfold getItem
 try with_reducible refine wpAny_holding ?_
 first|refine wpAny_bind (wpAny_pure ?_)|skip
 refine wpAny_bind (wpAny_sequenceKey ht.typeIs (by decide) ?_)
 refine wpAny_bind (wpAny_callSpecial?_slot (name:=Str.ofString "__getitem__") ht.typeIs PyProof.Rows.slot_tuple_getitem
  (wpAny_call_entry PyProof.Rows.slot_tuple_getitem ht.typeIs entry_tuple_getitem ?_ (args_tuple_getitem _ _)))
 show wpAny _ _ (Builtin.Tuple.tupleItemsOf (.ref t) >>=_) _ _ s
 refine wpAny_bind (tupleItemsOf_ ht ?_)
 refine wpAny_bind (wpAny_typeOf hTs ?_)
 rw[if_pos (by decide)]
 refine wpAny_bind (Zdw hs pl pu ?_)
 have hno:¬((((sIx items.size 0 lo:Nat):Int)==0&&(1:Int)==1&&(sIx items.size items.size hi- sIx items.size 0 lo)==items.size)=true):=by
  intro q
  rw[Bool.and_eq_true,Bool.and_eq_true]at q
  have q1:((sIx items.size 0 lo:Nat):Int)=0:=eq_of_beq q.1.1
  have q2:sIx items.size items.size hi- sIx items.size 0 lo=items.size:=eq_of_beq q.2
  exact hw ⟨by omega,by omega⟩
 show wpAny _ _ (if(((sIx items.size 0 lo:Nat):Int)==0&&(1:Int)==1&&(sIx items.size items.size hi- sIx items.size 0 lo)==items.size)=true then _ else _) _ _ s
 rw[if_neg hno,Zn3]
 first
  |exact wpAny_bind (m:=Builtin.Tuple.tupleExact _) (wpAny_newObj_type (wpAny_pure ⟨_,rfl,wpAny_pure h⟩) htake)
  |exact wpAny_bind (m:=Builtin.Tuple.tupleExact _) (wpAny_newObj_type (wpAny_bind (wpAny_pure (wpAny_pure ⟨_,rfl,wpAny_pure h⟩))) htake)
  |exact wpAny_bind (wpAny_bind (m:=Builtin.Tuple.tupleExact _) (wpAny_newObj_type (wpAny_pure (wpAny_pure ⟨_,rfl,wpAny_pure h⟩)) htake))
  |exact wpAny_bind (wpAny_bind (m:=Builtin.Tuple.tupleExact _) (wpAny_newObj_type (wpAny_pure ⟨_,rfl,wpAny_pure h⟩) htake))
end
end HT
namespace L2
open PySem PySem.Spec PyProof.Rows
noncomputable abbrev TO:=St→Hp→(Option Int→Hp→Prop)→Prop
noncomputable def PO(X:Cx)(e:Option Expr)(t:TO):Prop:=
 ∀(pins:List (Addr×Obj)) (s:Shared) (σ:St) (H:Hp) (Q:Option Int→Hp→Prop),Inv X pins σ H s→t σ H Q→
  wpAny (model X.prog X.w) X.A (evalPart e X.env) (fun u s'=>∃o H',Inv X pins σ H' s'∧IsPart u o∧Q o H') X.xe s
noncomputable def Zlj:TO:=fun _ H Q=>Q none H
noncomputable def Zul(t:TE):TO:=fun σ H Q=>t σ H fun x H1=>∃i,x= .int i∧Q (some i) H1
section
variable{X:Cx}{e:Expr}{te:TE}{lo hi:Option Expr}{tl th:TO}{pos p2:Pos}
theorem Zq4:PO X none Zlj:=by
 intro pins s σ H Q I h
 rw[evalPart_none]
 exact wpAny_pure ⟨none,H,I,.none,h⟩
theorem Zq5(h:PE X e te):PO X (some e) (Zul te):=by
 intro pins s σ H Q I hw
 rw[evalPart_some]
 refine thn (h pins s σ H _ I hw) fun u s1 zq9=>?_
 obtain⟨x,H1,I1,r1,q1⟩:=zq9
 obtain⟨i,rfl,q⟩:=q1
 obtain⟨t,rfl⟩:=r1
 exact⟨some i,H1,I1,.int i t,q⟩
noncomputable def SlR(X:Cx)(r:V→Option Int→Option Int→Hp→VK→Prop):Prop:=
 ∀(pins:List (Addr×Obj)) (s:Shared) (σ:St) (H:Hp) (x:V) (v vl vu:Value) (lo hi:Option Int) (sl:Addr) (Q:VK),Inv X pins σ H s→RelV x v→s.heap.IsSliceOf sl vl vu .none→IsPart vl lo→IsPart vu hi→r x lo hi H Q→
  ∃T id,typeLookup (.type T) "__getitem__"=pure (some (.builtin id))∧s.TypeIs v T∧wpAny (model X.prog X.w) X.A (getItem v (.ref sl)) (EP X pins σ Q) X.xe s
theorem SlR.or{r r':V→Option Int→Option Int→Hp→VK→Prop}(h:SlR X r)(h':SlR X r'):SlR X (fun x lo hi H Q=>r x lo hi H Q∨r' x lo hi H Q):=by
 intro pins s σ H x v vl vu lo hi sl Q I rx hs pl pu q
 rcases q with q|q
 ·exact h pins s σ H x v vl vu lo hi sl Q I rx hs pl pu q
 ·exact h' pins s σ H x v vl vu lo hi sl Q I rx hs pl pu q
noncomputable def tSl(r:V→Option Int→Option Int→Hp→VK→Prop)(te:TE)(tl th:TO):TE:=fun σ H Q=>te σ H fun x H1=>tl σ H1 fun l H2=>th σ H2 fun u H3=>r x l u H3 Q
theorem Zi4{r:V→Option Int→Option Int→Hp→VK→Prop}(hr:SlR X r)(he:PE X e te)(hl:PO X lo tl)(hu:PO X hi th):PE X (.Subscript e (.Slice lo hi none p2) pos) (tSl r te tl th):=by
 intro pins s σ H Q I h
 refine Subscript_ (thn (he pins s σ H _ I h) fun v s1 zq9=>?_)
 obtain⟨x,H1,I1,r1,q1⟩:=zq9
 refine wpAny_Slice (thn (hl pins s1 σ H1 _ I1 q1) fun vl s2 ⟨l,H2,I2,pl,q2⟩=>thn (hu pins s2 σ H2 _ I2 q2) fun vu s3 zq9=>?_)
 obtain⟨u,H3,I3,pu,q3⟩:=zq9
 rw[evalPart_none]
 refine wpAny_pure ?_
 have I4:Inv X pins σ H3 {s3 with heap:=s3.heap.push {cls:=.type "slice",data:=.fields #[vl,vu,.none]}}:=I3.kept (t':=s3.toks) fun b ob q=>Heap.get?_push_of_some _ q
 obtain⟨T,id,hT,ht,hg⟩:=hr pins {s3 with heap:=s3.heap.push {cls:=.type "slice",data:=.fields #[vl,vu,.none]}} σ H3 x v vl vu l u s3.heap.objs.size Q I4 r1 (Heap.IsSliceOf.new ..) pl pu q3
 show wpAny (model X.prog X.w) X.A (subscriptTail e (.Slice lo hi none p2) v (.ref s3.heap.objs.size)) (EP X pins σ Q) X.xe {s3 with heap:=s3.heap.push {cls:=.type "slice",data:=.fields #[vl,vu,.none]}}
 exact tail_any (ops:=[.ref s3.heap.objs.size,v]) ht hT hg (by with_unfolding_all rfl)
noncomputable def cutV(xs:List V)(lo hi:Option Int):List V:=(xs.drop (HT.sIx xs.length 0 lo)).take (HT.sIx xs.length xs.length hi- HT.sIx xs.length 0 lo)
theorem Zd5(xs:List V)(lo hi:Option Int):(cutV xs lo hi).length≤xs.length:=by
 unfold cutV
 rw[List.length_take,List.length_drop]
 omega
noncomputable def rSlT(K:PySem.W.Frag):V→Option Int→Option Int→Hp→VK→Prop:=fun x lo hi H Q=>∃a xs,x= .ref a∧SqT K H a xs∧
 ¬(HT.sIx xs.length 0 lo=0∧HT.sIx xs.length xs.length hi=xs.length)∧∀p,H p=none→Q (.ref p) (upd H p (.tup (cutV xs lo hi)))
theorem Zum:SlR X (rSlT X.K):=by
 intro pins s σ H x v vl vu lo hi sl Q I rx hs pl pu h
 obtain⟨a,xs,rfl,hx,hw,q⟩:=h
 cases rx
 obtain⟨its,r,ht,hz⟩:=I.tuple hx
 have hlen:its.toArray.size=xs.length:=by rw[List.size_toArray];exact r.length.symm
 refine⟨"tuple",_,PyProof.Rows.slot_tuple_getitem.lookup,ht.typeIs,?_⟩
 refine HT.getItem_tuple_cut ht hs pl pu (by rw[hlen];exact hw) ?_ (by rw[hlen];exact hz)
 rw[hlen]
 refine⟨.ref s.heap.objs.size,_,I.laid (t':=s.toks) (o:=.tup (cutV xs lo hi)) (fun b ob q=>Heap.get?_push_of_some _ q) (Nat.le_refl _) ?_,rfl,q _ (I.hok.fresh (Nat.le_refl _))⟩
 exact⟨Nat.le_trans (Zd5 xs lo hi) hz,_,(r.drop (HT.sIx xs.length 0 lo)).take (HT.sIx xs.length xs.length hi- HT.sIx xs.length 0 lo),IsTup.new _ _⟩
noncomputable def rLtT(K:PySem.W.Frag):R2:=fun x y H Q=>∃a b ns ms,x= .ref a∧y= .ref b∧SqT K H a (ns.map V.int)∧SqT K H b (ms.map V.int)∧Q (.bl (HT.lexLt ns ms)) H
noncomputable def Z1t(K:PySem.W.Frag):R2:=fun x y H Q=>∃a b xs ys,x= .ref a∧y= .ref b∧SqT K H a xs∧SqT K H b ys∧xs≠[]∧xs.length+ys.length≤sizeLine∧
 (ys=[]→Q (.ref a) H)∧(ys≠[]→∀p,H p=none→Q (.ref p) (upd H p (.tup (xs++ys))))
end
end L2
namespace L2
open PySem PySem.Spec PyProof.Rows
noncomputable def ixN(n:Nat)(i:Int):Option Nat:=if 0≤i then(if i<n then some i.toNat else none)else if-(n:Int)≤i then some (i+n).toNat else none
noncomputable def atI{α:Type}(xs:List α)(i:Int):Option α:=(ixN xs.length i).bind fun j=>xs[j]?
theorem Zlk{n:Nat}{i:Int}{j:Nat}(h:ixN n i=some j):seqIndex? i n=some j∧j<n∧-(n:Int)≤i∧i<n:=by
 unfold ixN at h
 by_cases h0:0≤i
 ·rw[if_pos h0]at h
  by_cases h1:i<n
  ·rw[if_pos h1]at h
   have e:i.toNat=j:=Option.some.inj h
   exact⟨by rw[seqIndex_of h0 h1,e],by omega,by omega,h1⟩
  ·rw[if_neg h1]at h;cases h
 ·rw[if_neg h0]at h
  by_cases h1:-(n:Int)≤i
  ·rw[if_pos h1]at h
   have e:(i+n).toNat=j:=Option.some.inj h
   exact⟨by rw[seqIndex_neg (by omega) h1,e],by omega,h1,by omega⟩
  ·rw[if_neg h1]at h;cases h
theorem Zh1{α:Type}{xs:List α}{i:Int}{v:α}(h:atI xs i=some v):∃j,seqIndex? i xs.length=some j∧xs[j]? =some v∧j<xs.length∧-(xs.length:Int)≤i∧i<xs.length:=by
 unfold atI at h
 cases e:ixN xs.length i with
 |none=>rw[e]at h;cases h
 |some j=>
  rw[e]at h
  obtain⟨h1,h2,h3,h4⟩:=Zlk e
  exact⟨j,h1,h,h2,h3,h4⟩
noncomputable def Zll(b:Expr):Prop:=∀o i,subscripted b false o i=operate [o,i] (getItem o i)
noncomputable def IxR(X:Cx)(r:R2):Prop:=
 ∀(value slice:Expr) (pins:List (Addr×Obj)) (s:Shared) (σ:St) (H:Hp) (x y:V) (v u:Value) (Q:VK),Inv X pins σ H s→RelV x v→RelV y u→r x y H Q→
  subscripted slice false v u=operate [v,u] (getItem v u)→wpAny (model X.prog X.w) X.A (subscriptTail value slice v u) (EP X pins σ Q) X.xe s
noncomputable def MtR(X:Cx)(id:String)(r:V→List V→Hp→VK→Prop):Prop:=
 ∀(pins:List (Addr×Obj)) (s:Shared) (σ:St) (H:Hp) (x:V) (xs:List V) (v:Value) (us:List Value) (Q:VK),Inv X pins σ H s→RelV x v→Vals xs us→r x xs H Q→
  wpAny (model X.prog X.w) X.A (call (.builtin id) (v::us)) (EP X pins σ Q) X.xe s
section
variable{X:Cx}{a b:Expr}{ta tb:TE}{pos:Pos}
theorem IxR.or{r r':R2}(h:IxR X r)(h':IxR X r'):IxR X (fun x y H Q=>r x y H Q∨r' x y H Q):=by
 intro value slice pins s σ H x y v u Q I rx ry q hs
 rcases q with q|q
 ·exact h value slice pins s σ H x y v u Q I rx ry q hs
 ·exact h' value slice pins s σ H x y v u Q I rx ry q hs
theorem Zxq{r:R2}(hr:IxR X r)(ha:PE X a ta)(hb:PE X b tb)(hs:Zll b):PE X (.Subscript a b pos) (tOp r ta tb):=by
 intro pins s σ H Q I h
 exact Subscript_ (binT ha hb I h fun v u s2 x y H2 I2 rx ry q=>hr a b pins s2 σ H2 x y v u Q I2 rx ry q (hs _ _))
noncomputable def rIxL(K:PySem.W.Frag):R2:=fun x y H Q=>∃p xs i v,x= .ref p∧y= .int i∧SqL K H p xs∧atI xs i=some v∧Q v H
noncomputable def rIxT(K:PySem.W.Frag):R2:=fun x y H Q=>∃p xs i v,x= .ref p∧y= .int i∧SqT K H p xs∧atI xs i=some v∧Q v H
noncomputable def rIxS:R2:=fun x y H Q=>∃z i c,x= .str z∧y= .int i∧z.length≤sizeLine∧atI z.cps.toList i=some c∧Q (.str ⟨#[c]⟩) H
theorem Zq6:IxR X (rIxL X.K):=by
 intro value slice pins s σ H x y v u Q I rx ry h hs
 obtain⟨p,xs,i,z,rfl,rfl,hq,he,q⟩:=h
 cases rx
 obtain⟨t,rfl⟩:=ry
 obtain⟨its,r,pl,hz⟩:=I.list hq
 obtain⟨j,h1,h2,h3,h4,h5⟩:=Zh1 he
 obtain⟨w,ew,rw'⟩:=r.get h2
 have hl:=r.length
 have hn:=Ze7
 have fin:EP X pins σ Q w s:=⟨z,H,I,rw',q⟩
 by_cases h0:0≤i
 ·have hj:i.toNat=j:=by
   rw[seqIndex_of h0 h5]at h1
   exact Option.some.inj h1
  exact item_listR pl.isList h0 (by omega) (by rw[hj];simpa using ew) fin hs
 ·have hj:(i+(its.toArray.size:Int)).toNat=j:=by
   rw[seqIndex_neg (by omega) h4]at h1
   rw[List.size_toArray,←hl]
   exact Option.some.inj h1
  exact subscriptTail_builtinR (x:=w) pl.isList.typeIs slot_list_getitem.lookup
   (wpAny_getItem_list_neg (Q:=fun r s'=>r=w∧EP X pins σ Q r s') pl.isList (by omega) (by rw[List.size_toArray]<;> omega) (by omega) (by rw[hj];simpa using ew) ⟨rfl,fin⟩) hs
theorem Zun:IxR X (rIxT X.K):=by
 intro value slice pins s σ H x y v u Q I rx ry h hs
 obtain⟨p,xs,i,z,rfl,rfl,hq,he,q⟩:=h
 cases rx
 obtain⟨t,rfl⟩:=ry
 obtain⟨its,r,pl,hz⟩:=I.tuple hq
 obtain⟨j,h1,h2,h3,h4,h5⟩:=Zh1 he
 obtain⟨w,ew,rw'⟩:=r.get h2
 have hl:=r.length
 have hn:=Ze7
 have fin:EP X pins σ Q w s:=⟨z,H,I,rw',q⟩
 exact subscriptTail_builtinR (x:=w) pl.typeIs slot_tuple_getitem.lookup
  (getItem_tuple (j:=j) (Q:=fun r s'=>r=w∧EP X pins σ Q r s') pl (by omega) (by omega) (by rw[List.size_toArray,←hl];exact h1) (by simpa using ew) ⟨rfl,fin⟩) hs
theorem Zuo:IxR X rIxS:=by
 intro value slice pins s σ H x y v u Q I rx ry h hs
 obtain⟨z,i,c,rfl,rfl,hz,he,q⟩:=h
 obtain⟨t,rfl⟩:=rx
 obtain⟨t',rfl⟩:=ry
 obtain⟨j,h1,h2,h3,h4,h5⟩:=Zh1 he
 have hl:z.cps.toList.length=z.length:=by simp[Str.length]
 rw[hl]at h1 h4 h5
 have hn:=Ze7
 exact tail_any (typeIs_str s z t) slot_str_getitem.lookup (getItem_str (c:=c) (by
  have e1:decide (i< -(2^63:Int))=false:=decide_eq_false (by omega)
  have e2:decide (i≥2^63)=false:=decide_eq_false (by omega)
  rw[e1,e2,Bool.or_false]) (by rw[h1];simpa using h2) ⟨.str ⟨#[c]⟩,H,I.tok _,⟨_,rfl⟩,q⟩) hs
noncomputable def rIx(K:PySem.W.Frag):R2:=fun x y H Q=>rIxL K x y H Q∨rIxT K x y H Q∨rIxS x y H Q
theorem Zup:IxR X (rIx X.K):=Zq6.or (Zun.or Zuo)
theorem Zkf(its:List Value)(n j:Nat)(u:Value):Obj.mapSeq (·.setIfInBounds j u) {cls:=.type "list",data:=.seq its.toArray n}={cls:=.type "list",data:=.seq (its.set j u).toArray n}:=by
 simp[Obj.mapSeq]
theorem Inv.lst{pins:List (Addr×Obj)}{σ:St}{H:Hp}{s:Shared}{p:Addr}{xs:List V}(I:Inv X pins σ H s)(h:H p=some (.lst xs)):
  ∃(its:List Value) (n:Nat),Vals xs its∧s.heap.get? p=some {cls:=.type "list",data:=.seq its.toArray n}∧xs.length≤sizeLine:=by
 obtain⟨z,its,n,r,e⟩:=I.hok p _ h
 exact⟨its,n,r,e,z⟩
theorem Inv.lstUpd{pins:List (Addr×Obj)}{σ:St}{H:Hp}{s:Shared}{p:Addr}{xs ys:List V}{its its':List Value}{n n':Nat}{f:Obj→Obj}(I:Inv X pins σ H s)(h:H p=some (.lst xs))
  (ho:s.heap.get? p=some {cls:=.type "list",data:=.seq its.toArray n}) (hf:f {cls:=.type "list",data:=.seq its.toArray n}={cls:=.type "list",data:=.seq its'.toArray n'}) (r:Vals ys its') (hz:ys.length≤sizeLine) (t:Nat):
  Inv X pins σ (upd H p (.lst ys)) {s with heap:=s.heap.update p f,toks:=t}:=by
 have e:(s.heap.update p f).get? p=some {cls:=.type "list",data:=.seq its'.toArray n'}:=by
  rw[Heap.get?_update_self f ho (by rw[hf]<;> rfl),hf]
 refine I.write (x:=p) (e:=p) (by rw[h];trivial) (.inl rfl) (fun b u hb q=>(Heap.get?_update_other _ _ (Ne.symm hb)).trans q) ⟨_,e⟩ ?_
 exact⟨hz,its',n',r,e⟩
noncomputable def Zuq:V→V→V→Hp→(Hp→Prop)→Prop:=fun o i v H Q=>∃p xs k j,o= .ref p∧i= .int k∧H p=some (.lst xs)∧ixN xs.length k=some j∧Q (upd H p (.lst (xs.set j v)))
theorem Zn4:PSet X Zuq:=by
 intro pins s σ H o i v ov iv u Q I ro ri rv h
 obtain⟨p,xs,k,j,rfl,rfl,hp,hj,q⟩:=h
 cases ro
 obtain⟨t,rfl⟩:=ri
 obtain⟨its,n,r,ho,hz⟩:=I.lst hp
 obtain⟨h1,h2,h3,h4⟩:=Zlk hj
 have hl:=r.length
 have hn:=Ze7
 have I':Inv X pins σ (upd H p (.lst (xs.set j v))) {s with heap:=s.heap.update p (Obj.mapSeq (·.setIfInBounds j u))}:=
  I.lstUpd hp ho (Zkf its n j u) (r.set rv j) (by rw[List.length_set];exact hz) s.toks
 by_cases h0:0≤k
 ·have hk:k.toNat=j:=by
   rw[seqIndex_of h0 h4]at h1
   exact Option.some.inj h1
  exact PySem.W.ki_setAt ho h0 (by omega) (by rw[List.size_toArray,←hl];exact h4) (by rw[hk];exact⟨_,I',q⟩)
 ·have hk:(k+(its.toArray.size:Int)).toNat=j:=by
   rw[seqIndex_neg (by omega) h3]at h1
   rw[List.size_toArray,←hl]
   exact Option.some.inj h1
  exact PySem.W.ki_setBack ho (by omega) (by rw[List.size_toArray,←hl];exact h3) (by omega) (by rw[hk];exact⟨_,I',q⟩)
theorem Zgn(lo hi:Option Int)(n:Nat):(sliceBounds lo hi none n).1=((HT.sIx n 0 lo:Nat):Int)∧(sliceBounds lo hi none n).2.1=((HT.sIx n n hi:Nat):Int)∧(sliceBounds lo hi none n).2.2=1:=by
 refine⟨?_,?_,rfl⟩
 ·cases lo with
  |none=>simp[sliceBounds,HT.sIx]
  |some i=>
   simp only[sliceBounds,HT.sIx,Option.getD_none,show(1:Int) > 0 by decide,if_true]
   by_cases h:i<0
   ·simp only[h,if_true]<;> omega
   ·simp only[h,if_false]<;> omega
 ·cases hi with
  |none=>simp[sliceBounds,HT.sIx]
  |some i=>
   simp only[sliceBounds,HT.sIx,Option.getD_none,show(1:Int) > 0 by decide,if_true]
   by_cases h:i<0
   ·simp only[h,if_true]<;> omega
   ·simp only[h,if_false]<;> omega
theorem Zfp(its:List Value)(lo hi:Option Int):slicePick its.toArray lo hi none=((its.drop (HT.sIx its.length 0 lo)).take (HT.sIx its.length its.length hi- HT.sIx its.length 0 lo)).toArray:=by
 obtain⟨h1,h2,h3⟩:=Zgn lo hi its.toArray.size
 unfold slicePick
 rw[h1,h2,h3]
 simp only[sliceRange_one,pick_run,List.size_toArray]<;> rfl
noncomputable def rSlL(K:PySem.W.Frag):V→Option Int→Option Int→Hp→VK→Prop:=fun x lo hi H Q=>∃a xs,x= .ref a∧SqL K H a xs∧∀p,H p=none→Q (.ref p) (upd H p (.lst (cutV xs lo hi)))
theorem Zq7:SlR X (rSlL X.K):=by
 intro pins s σ H x v vl vu lo hi sl Q I rx hs pl pu h
 obtain⟨a,xs,rfl,hx,q⟩:=h
 cases rx
 obtain⟨its,r,ht,hz⟩:=I.list hx
 have hlen:=r.length
 refine⟨"list",_,slot_list_getitem.lookup,ht.isList.typeIs,?_⟩
 refine wpAny_getItem_list_slice ht.isList hs pl pu .none (by simp) ?_ (by rw[List.size_toArray]<;> omega)
 rw[Zfp,←hlen]
 refine⟨.ref s.heap.objs.size,_,I.laid (t':=s.toks) (o:=.lst (cutV xs lo hi)) (fun b ob q=>Heap.get?_push_of_some _ q) (Nat.le_refl _) ?_,rfl,q _ (I.hok.fresh (Nat.le_refl _))⟩
 exact⟨Nat.le_trans (Zd5 xs lo hi) hz,_,0,(r.drop (HT.sIx xs.length 0 lo)).take (HT.sIx xs.length xs.length hi- HT.sIx xs.length 0 lo),Heap.get?_push_size _ rfl⟩
noncomputable def Z5:V→Bool
 | .non=>true
 | .bl _=>true
 | .int _=>true
 | .str _=>true
 |_=>false
noncomputable def eqV:V→V→Bool
 | .non,.non=>true
 | .bl a,.bl b=>a==b
 | .bl a,.int b=>(if a then 1 else 0)==b
 | .int a,.bl b=>a==(if b then 1 else 0)
 | .int a,.int b=>a==b
 | .str a,.str b=>a==b
 |_,_=>false
theorem Zps{A:Around}{s:Shared}{y x:V}{u v:Value}(ry:RelV y u)(rx:RelV x v)(fy:Z5 y=true)(fx:Z5 x=true):SeqAt.EqAt A s u v (eqV y x):=by
 cases y with
 |non=>
  cases ry
  cases x with
  |non=>cases rx;exact SeqAt.EqAt.same _
  |bl b=>cases rx;exact SeqAt.EqAt.none_bool b
  |int b=>obtain⟨t,rfl⟩:=rx;exact SeqAt.EqAt.none_int b t
  |str b=>obtain⟨t,rfl⟩:=rx;exact SeqAt.EqAt.none_str b t
  |_=>exact absurd (show false=true from fx) Bool.false_ne_true
 |bl a=>
  cases ry
  cases x with
  |non=>cases rx;exact SeqAt.EqAt.bool_none a
  |bl b=>cases rx;exact SeqAt.EqAt.bool_bool a b
  |int b=>obtain⟨t,rfl⟩:=rx;exact SeqAt.EqAt.bool_int a b t
  |str b=>obtain⟨t,rfl⟩:=rx;exact SeqAt.EqAt.bool_str a b t
  |_=>exact absurd (show false=true from fx) Bool.false_ne_true
 |int a=>
  obtain⟨t',rfl⟩:=ry
  cases x with
  |non=>cases rx;exact SeqAt.EqAt.int_none a t'
  |bl b=>cases rx;exact SeqAt.EqAt.int_bool a t' b
  |int b=>obtain⟨t,rfl⟩:=rx;exact SeqAt.EqAt.int_int a t' b t
  |str b=>obtain⟨t,rfl⟩:=rx;exact SeqAt.EqAt.int_str a t' b t
  |_=>exact absurd (show false=true from fx) Bool.false_ne_true
 |str a=>
  obtain⟨t',rfl⟩:=ry
  cases x with
  |non=>cases rx;exact SeqAt.EqAt.str_none a t'
  |bl b=>cases rx;exact SeqAt.EqAt.str_bool a t' b
  |int b=>obtain⟨t,rfl⟩:=rx;exact SeqAt.EqAt.str_int a t' b t
  |str b=>obtain⟨t,rfl⟩:=rx;exact SeqAt.EqAt.str_str a t' b t
  |_=>exact absurd (show false=true from fx) Bool.false_ne_true
 |_=>exact absurd (show false=true from fy) Bool.false_ne_true
noncomputable def eqU(x:V)(u:Value):Bool:=match u with
 | .none=>eqV .non x
 | .bool b=>eqV (.bl b) x
 | .int i _=>eqV (.int i) x
 | .str z _=>eqV (.str z) x
 |_=>false
theorem Zlm{x y:V}{u:Value}(r:RelV y u)(f:Z5 y=true):eqU x u=eqV y x:=by
 cases y with
 |non=>cases r;rfl
 |bl b=>cases r;rfl
 |int i=>obtain⟨t,rfl⟩:=r;rfl
 |str z=>obtain⟨t,rfl⟩:=r;rfl
 |_=>exact absurd (show false=true from f) Bool.false_ne_true
theorem Zd6{x:V}:∀{xs:List V} {us:List Value},Vals xs us→xs.all Z5=true→us.any (eqU x)=xs.any fun y=>eqV y x
 |_,_,.nil,_=>rfl
 |y::xs,u::us,.cons r t,f=>by
  rw[List.all_cons,Bool.and_eq_true]at f
  rw[List.any_cons,List.any_cons,Zlm r f.1,Zd6 t f.2]
theorem Zcb{A:Around}{s:Shared}{x:V}{v:Value}(rx:RelV x v)(fx:Z5 x=true):∀{xs:List V} {us:List Value},Vals xs us→xs.all Z5=true→∀u∈us,SeqAt.EqAt A s u v (eqU x u)
 |_,_,.nil,_=>fun u hu=>by cases hu
 |y::xs,u::us,.cons r t,f=>fun u' hu=>by
  rw[List.all_cons,Bool.and_eq_true]at f
  rcases List.mem_cons.mp hu with rfl|hu
  ·rw[Zlm r f.1];exact Zps r rx f.1 fx
  ·exact Zcb rx fx t f.2 u' hu
noncomputable def inV(x:V)(xs:List V):Bool:=xs.any fun y=>eqV y x
noncomputable def rIn(K:PySem.W.Frag)(neg:Bool):R2:=fun x y H Q=>∃p xs,y= .ref p∧(SqL K H p xs∨SqT K H p xs)∧Z5 x=true∧xs.all Z5=true∧Q (.bl (if neg then !inV x xs else inV x xs)) H
theorem Zgo:OpR X (compareOp .In) (rIn X.K false):=by
 intro pins s σ H x y v u Q I rx ry h
 obtain⟨p,xs,rfl,hq,fx,fs,q⟩:=h
 cases ry
 rcases hq with hq|hq
 ·obtain⟨its,r,pl,hz⟩:=I.list hq
  refine SeqAt.in_listAt (eqU x) pl.isList (fun w hw=>Zcb rx fx r fs w (by simpa using hw)) ⟨.bl _,H,I,rfl,?_⟩
  rw[show its.toArray.any (eqU x)=its.any (eqU x) by simp,Zd6 r fs]
  exact q
 ·obtain⟨its,r,pl,hz⟩:=I.tuple hq
  refine SeqAt.in_tupleAt (eqU x) pl (fun w hw=>Zcb rx fx r fs w (by simpa using hw)) ⟨.bl _,H,I,rfl,?_⟩
  rw[show its.toArray.any (eqU x)=its.any (eqU x) by simp,Zd6 r fs]
  exact q
theorem Zgp:OpR X (compareOp .NotIn) (rIn X.K true):=by
 intro pins s σ H x y v u Q I rx ry h
 obtain⟨p,xs,rfl,hq,fx,fs,q⟩:=h
 cases ry
 rcases hq with hq|hq
 ·obtain⟨its,r,pl,hz⟩:=I.list hq
  refine SeqAt.notIn_listAt (eqU x) pl.isList (fun w hw=>Zcb rx fx r fs w (by simpa using hw)) ⟨.bl _,H,I,rfl,?_⟩
  rw[show its.toArray.any (eqU x)=its.any (eqU x) by simp,Zd6 r fs]
  exact q
 ·obtain⟨its,r,pl,hz⟩:=I.tuple hq
  refine SeqAt.notIn_tupleAt (eqU x) pl (fun w hw=>Zcb rx fx r fs w (by simpa using hw)) ⟨.bl _,H,I,rfl,?_⟩
  rw[show its.toArray.any (eqU x)=its.any (eqU x) by simp,Zd6 r fs]
  exact q
theorem Zgq:OpR X (compareOp .NotIn) (fun x y H Q=>∃i j,x= .str i∧y= .str j∧Q (.bl (!(!(Builtin.Str.occurrences j i 0 j.length 1).isEmpty))) H):=by
 intro pins s σ H x y v u Q I rx ry h
 obtain⟨i,j,rfl,rfl,q⟩:=h
 obtain⟨t,rfl⟩:=rx
 obtain⟨t',rfl⟩:=ry
 exact notIn_str ⟨.bl _,H,I,rfl,q⟩
theorem Zgr:Zdu X (.builtin "len") (fun xs H Q=>∃p ys,xs=[.ref p]∧(SqL X.K H p ys∨SqT X.K H p ys)∧Q (.int ys.length) H):=by
 intro pins s σ H xs us Q I r h
 obtain⟨p,ys,rfl,hq,q⟩:=h
 obtain⟨u,rfl,rx⟩:=Zey r
 cases rx
 have hn:=Ze7
 rcases hq with hq|hq
 ·obtain⟨its,r',pl,hz⟩:=I.list hq
  have hlen:=r'.length
  exact Calls.call_len_list pl.isList (by simp only[List.size_toArray]<;> omega) ⟨.int ys.length,H,I.tok _,⟨s.toks+1,by rw[List.size_toArray,hlen]⟩,q⟩
 ·obtain⟨its,r',pl,hz⟩:=I.tuple hq
  have hlen:=r'.length
  exact len_tuple pl (by simp only[List.size_toArray]<;> omega) ⟨.int ys.length,H,I.tok _,⟨s.toks+1,by rw[List.size_toArray,hlen]⟩,q⟩
theorem Zgs:Zdu X (.builtin "len") (fun xs H Q=>∃z,xs=[.str z]∧z.length≤sizeLine∧Q (.int z.length) H):=by
 intro pins s σ H xs us Q I r h
 obtain⟨z,rfl,hz,q⟩:=h
 obtain⟨u,rfl,t,rfl⟩:=Zey r
 have hn:=Ze7
 exact len_str (by omega) ⟨.int z.length,H,I.tok _,⟨_,rfl⟩,q⟩
theorem Zdu.or{f:Value}{r r':List V→Hp→VK→Prop}(h:Zdu X f r)(h':Zdu X f r'):Zdu X f (fun xs H Q=>r xs H Q∨r' xs H Q):=by
 intro pins s σ H xs us Q I rs q
 rcases q with q|q
 ·exact h pins s σ H xs us Q I rs q
 ·exact h' pins s σ H xs us Q I rs q
theorem Zgt:Zdu X (.type "list") (fun xs H Q=>∃p ys,xs=[.ref p]∧(SqL X.K H p ys∨SqT X.K H p ys)∧∀l,H l=none→Q (.ref l) (upd H l (.lst ys))):=by
 intro pins s σ H xs us Q I r h
 obtain⟨p,ys,rfl,hq,q⟩:=h
 obtain⟨u,rfl,rx⟩:=Zey r
 cases rx
 have fin:∀(its:List Value),Vals ys its→ys.length≤sizeLine→∀(h':Heap) (c':Nat),(∀b o',s.heap.get? b=some o'→h'.get? b=some o')→
   h'.get? s.heap.objs.size=some {cls:=.type "list",dict:=none,data:=.seq its.toArray c',slots:= #[]}→EP X pins σ Q (.ref s.heap.objs.size) {s with heap:=h'}:=fun its r' hz h' c' kp e=>
  ⟨.ref s.heap.objs.size,_,I.laid (t':=s.toks) kp (Nat.le_refl _) (show Zba X.prog X.w _ h' _ (.lst ys)from⟨hz,its,c',r',e⟩),rfl,q _ (I.hok.fresh (Nat.le_refl _))⟩
 rcases hq with hq|hq
 ·obtain⟨its,r',pl,hz⟩:=I.list hq
  have hlen:=r'.length
  obtain⟨o,ho,hc,n,hd⟩:=pl.isList
  exact call_list_seq p (.inl rfl) ho hc hd (fun h' c' kp e=>fin its r' hz h' c' kp e) (by simp only[List.size_toArray]<;> omega)
 ·obtain⟨its,r',pl,hz⟩:=I.tuple hq
  have hlen:=r'.length
  obtain⟨o,ho,hc,n,hd⟩:=pl
  exact call_list_seq p (.inr rfl) ho hc hd (fun h' c' kp e=>fin its r' hz h' c' kp e) (by simp only[List.size_toArray]<;> omega)
noncomputable def tyV(K:PySem.W.Frag)(T:String)(x:V)(H:Hp):Prop:=match x with
 | .str _=>T="str"
 | .int _=>T="int"
 | .ref p=>(T="list"∧∃xs,SqL K H p xs)∨(T="tuple"∧∃o,K.lookup p=some o∧o.cls= .type "tuple"∧o.dict=none)∨
   (T="dict"∧((∃kvs,HK H p kvs)∨∃kvs,HTt H p kvs))∨(T="set"∧∃S n,H p=some (.set S n))
 |_=>False
theorem Zur{pins:List (Addr×Obj)}{σ:St}{H:Hp}{s:Shared}{T:String}{x:V}{v:Value}(I:Inv X pins σ H s)(r:RelV x v)(ty:tyV X.K T x H):
  s.TypeIs v T∧∀a,v= .ref a→∃ob,s.heap.get? a=some ob∧ob.dict=none:=by
 cases x with
 |str z=>
  obtain⟨t,rfl⟩:=r
  cases(show T="str"from ty)
  exact⟨typeIs_str s z t,fun _ e=>nomatch e⟩
 |int i=>
  obtain⟨t,rfl⟩:=r
  cases(show T="int"from ty)
  exact⟨typeIs_int s i t,fun _ e=>nomatch e⟩
 |ref p=>
  cases r
  rcases ty with⟨rfl,xs,hq⟩|⟨rfl,o,hk,hc,hd⟩|⟨rfl,hk⟩|⟨rfl,S,n,hk⟩
  ·obtain⟨its,_,pl,_⟩:=I.list hq
   refine⟨pl.isList.typeIs,fun a e=>?_⟩
   cases e
   obtain⟨o,n,e,c,hd,_⟩:=pl
   exact⟨o,e,hd⟩
  ·refine⟨⟨o,I.kIn p o hk,hc⟩,fun a e=>?_⟩
   cases e
   exact⟨o,I.kIn _ o hk,hd⟩
  ·have z:∃o,s.heap.get? p=some o∧o.ExactDict:=by
    rcases hk with⟨kvs,ep,hk⟩|⟨kvs,ep,bs,hk⟩
    ·obtain⟨_,_,_,_,o,_,e,ex,_⟩:=I.hok p _ hk
     exact⟨o,e,ex⟩
    ·obtain⟨_,_,_,_,o,_,e,ex,_⟩:=I.hok p _ hk
     exact⟨o,e,ex⟩
   obtain⟨o,e,ex⟩:=z
   refine⟨⟨o,e,ex.1⟩,fun a e2=>?_⟩
   cases e2
   exact⟨o,e,ex.2.1⟩
  ·obtain⟨o,_,_,_,e,ex,_⟩:=I.hok p _ hk
   refine⟨⟨o,e,ex.1⟩,fun a e2=>?_⟩
   cases e2
   exact⟨o,e,ex.2.1⟩
 |_=>exact False.elim ty
noncomputable def tBM0(K:PySem.W.Frag)(T:String)(r:V→List V→Hp→VK→Prop)(to:TE):TE:=fun σ H Q=>to σ H fun x H1=>tyV K T x H1∧r x [] H1 Q
noncomputable def tBM(K:PySem.W.Frag)(T:String)(r:V→List V→Hp→VK→Prop)(to:TE)(t:TA):TE:=fun σ H Q=>to σ H fun x H1=>tyV K T x H1∧t σ H1 fun xs H2=>r x xs H2 Q
variable{o e:Expr}{es:List Expr}{to:TE}{t:TA}{name:Str}{apos cpos:Pos}{T id:String}{r:V→List V→Hp→VK→Prop}
theorem Zn5(pa:PlainAttrs T)(slot:Slot T name id)(hty:typeOf (.builtin id)=pure (.type "method_descriptor"))(hm:MtR X id r)(ho:PE X o to)(ha:PA X (e::es) t)
  (hbase:attributeBase o name X.env (eval o X.env)=eval o X.env:=by rfl)
  (hfew:((backTo cpos (starEach (e::es) X.env)).all (fun x=>!x.1)&&(backToKw cpos (keywordEach [] X.env)).all (fun x=>x.1.isSome)
   &&decide ((e::es).length+([]:List Keyword).length+(if([]:List Keyword).isEmpty then 0 else 1)<30))=true:=by rfl)
  (hline:(apos.endLine==cpos.line)=true:=by rfl) (hs:starEach (e::es) X.env=(false,eval e X.env)::starEach es X.env:=by rfl) (hplain:(backTo cpos (starEach es X.env)).any (·.1)=false:=by rfl):
  PE X (.Call (.Attribute o name apos) (e::es) [] cpos) (tBM X.K T r to t):=by
 intro pins s σ H Q I h
 refine wpAny_Call_method_late hbase hfew hline rfl (thn (ho pins s σ H _ I h) fun v s1 zq9=>?_)
 obtain⟨x,H1,I1,r1,ty,q1⟩:=zq9
 obtain⟨h1,h2⟩:=Zur I1 r1 ty
 refine⟨T,id,pa,slot,hty,h1,h2,?_⟩
 have hA:=ha cpos pins s1 σ H1 _ I1 q1
 rw[hs]at hA⊢
 refine Calls.callWith_builtin (by show(false|| (backTo cpos (starEach es X.env)).any (·.1))=false;rw[hplain]<;> rfl) (Calls.evalArgs_plain ?_)
 exact thn hA fun us s2 ⟨vs,H2,I2,r2,q2⟩=>hm pins s2 σ H2 x vs v us Q I2 r1 r2 q2
end
end L2
namespace L2
open PySem PySem.Spec PyProof.Rows
noncomputable def MtM(X:Cx)(id:String)(r:V→List V→Hp→VK→Prop):Prop:=
 ∀(pins:List (Addr×Obj)) (s:Shared) (σ:St) (H:Hp) (x:V) (xs:List V) (v:Value) (us:List Value) (Q:VK),Inv X pins σ H s→RelV x v→Vals xs us→r x xs H Q→
  wpAny (model X.prog X.w) X.A (call (.builtin id) (v::us)) (EP X pins σ Q) X.xe s
theorem Vals.one{x:V}{us:List Value}(h:Vals [x] us):∃u,us=[u]∧RelV x u:=by
 cases h with
 |cons r t=>cases t;exact⟨_,rfl,r⟩
section
variable{X:Cx}{pins:List (Addr×Obj)}{σ:St}{H:Hp}{s:Shared}{l b:Addr}{xs ys zs:List V}
theorem Inv.lset{its its':List Value}{n:Nat}{f:Array Value→Array Value}{t':Nat}(I:Inv X pins σ H s)(hH:H l=some (.lst xs))
  (e:s.heap.get? l=some {cls:=.type "list",data:=.seq its.toArray n}) (hf:f its.toArray=its'.toArray) (hv:Vals ys its') (hz:ys.length≤sizeLine):
  Inv X pins σ (upd H l (.lst ys)) {s with heap:=s.heap.update l (Obj.mapSeq f),toks:=t'}:=by
 have q:=PySem.IsL.update e f
 rw[hf]at q
 refine I.write (x:=l) (e:=l) (by rw[hH];exact trivial) (.inl rfl) (fun b' u hb hu=>(Heap.get?_update_other s.heap (Obj.mapSeq f) (Ne.symm hb)).trans hu) ⟨_,q⟩ ?_
 exact⟨hz,its',_,hv,q⟩
theorem Inv.lnew{its:List Value}{t':Nat}(I:Inv X pins σ H s)(hv:Vals ys its)(hz:ys.length≤sizeLine):
  Inv X pins σ (upd H s.heap.objs.size (.lst ys)) {s with heap:=s.heap.push {cls:=.type "list",data:=.seq its.toArray},toks:=t'}:=
 I.laid (fun _ _ q=>Heap.get?_push_of_some _ q) (Nat.le_refl _) ⟨hz,its,0,hv,Heap.get?_push_size _ rfl⟩
theorem Inv.fresh(I:Inv X pins σ H s):H s.heap.objs.size=none:=I.hok.fresh (Nat.le_refl _)
theorem Inv.lstM(I:Inv X pins σ H s)(hH:H l=some (.lst xs)):xs.length≤sizeLine∧∃(its:List Value) (n:Nat),Vals xs its∧xs.length=its.length∧s.heap.get? l=some {cls:=.type "list",data:=.seq its.toArray n}:=by
 obtain⟨z,its,n,r,e⟩:=I.hok l _ hH
 exact⟨z,its,n,r,r.length,e⟩
end
section
variable{X:Cx}
noncomputable def Zd7:V→List V→Hp→VK→Prop:=fun x vs H Q=>∃l xs y,x= .ref l∧vs=[y]∧H l=some (.lst xs)∧xs.length<sizeLine∧Q .non (upd H l (.lst (xs++[y])))
theorem Zgu:MtM X "list.append" Zd7:=by
 intro pins s σ H x vs v us Q I rx rv h
 obtain⟨l,xs,y,rfl,rfl,hH,hz,q⟩:=h
 cases rx
 obtain⟨u,rfl,ru⟩:=rv.one
 obtain⟨z,its,n,r,hl,e⟩:=I.lstM hH
 refine call_meets F.slot_list_append ⟨_,e,rfl⟩ F.entry_list_append (F.args_list_append_2 _ _) (PySem.list_append l its.toArray n u (by rw[List.size_toArray];omega)) ⟨e,?_⟩
 refine⟨.non,_,I.lset (its':=its++[u]) hH e (by simp) (r.append (.cons ru .nil)) ?_,rfl,q⟩
 rw[List.length_append,List.length_singleton]
 omega
noncomputable def Zxr:V→List V→Hp→VK→Prop:=fun x vs H Q=>∃l b xs zs,x= .ref l∧vs=[.ref b]∧H l=some (.lst xs)∧H b=some (.lst zs)∧xs.length+zs.length≤sizeLine∧Q .non (upd H l (.lst (xs++zs)))
noncomputable def rPop:V→List V→Hp→VK→Prop:=fun x vs H Q=>∃l xs y,x= .ref l∧vs=[]∧H l=some (.lst xs)∧xs[xs.length- 1]? =some y∧Q y (upd H l (.lst xs.dropLast))
noncomputable def Zz3:V→List V→Hp→VK→Prop:=fun x vs H Q=>∃l xs i k y,x= .ref l∧vs=[.int i]∧H l=some (.lst xs)∧-(2^63)≤i∧i<2^63∧seqIndex? i xs.length=some k∧xs[k]? =some y∧Q y (upd H l (.lst (xs.eraseIdx k)))
noncomputable def Zw1:V→List V→Hp→VK→Prop:=fun x vs H Q=>∃l xs,x= .ref l∧vs=[]∧H l=some (.lst xs)∧Q .non (upd H l (.lst xs.reverse))
noncomputable def Zz4:V→List V→Hp→VK→Prop:=fun x vs H Q=>∃l xs,x= .ref l∧vs=[]∧H l=some (.lst xs)∧Q .non (upd H l (.lst []))
noncomputable def rCat:R2:=fun x y H Q=>∃l b xs zs,x= .ref l∧y= .ref b∧H l=some (.lst xs)∧H b=some (.lst zs)∧xs.length+zs.length≤sizeLine∧∀p,H p=none→Q (.ref p) (upd H p (.lst (xs++zs)))
noncomputable def rRep:R2:=fun x y H Q=>∃l k xs,x= .ref l∧y= .int k∧H l=some (.lst xs)∧-(2^63)≤k∧k<2^63∧xs.length*k.toNat≤sizeLine∧
 ∀p,H p=none→Q (.ref p) (upd H p (.lst (List.replicate k.toNat xs).flatten))
end
section
variable{prog:Program}{w:World}{A:Around}{E:Value→Shared→Prop}{s:Shared}
end
section
variable{X:Cx}
end
end L2
namespace L2
open PySem PySem.Spec PyProof.Rows
section
variable{κ:Type}[DecidableEq κ]
noncomputable def valV(kvs:List (κ×V))(k:κ):Option V:=(kvs.find? fun kv=>decide (kv.1=k)).map (·.2)
noncomputable def putK(kvs:List (κ×V))(k:κ)(v:V):List (κ×V):=
 if(kvs.any fun kv=>decide (kv.1=k))=true then kvs.map (fun kv=>if kv.1=k then(kv.1,v)else kv)else kvs++[(k,v)]
noncomputable def Zq8(kvs:List (κ×V))(k:κ):List (κ×V):=kvs.filter fun kv=>decide (kv.1≠k)
theorem Zn6{k:κ}:valV ([]:List (κ×V)) k=none:=rfl
theorem Zdy{p:κ×V}{r:List (κ×V)}{k:κ}(e:p.1=k):valV (p::r) k=some p.2:=by simp[valV,List.find?_cons,e]
theorem Zdz{p:κ×V}{r:List (κ×V)}{k:κ}(e:¬p.1=k):valV (p::r) k=valV r k:=by simp[valV,List.find?_cons,e]
theorem Zfq(k:κ):∀kvs:List (κ×V),(kvs.any fun kv=>decide (kv.1=k))=(valV kvs k).isSome
 | []=>rfl
 |p::r=>by
  rw[List.any_cons]
  by_cases e:p.1=k
  ·simp only[Zdy e,decide_eq_true e,Bool.true_or,Option.isSome_some]
  ·rw[Zdz e,decide_eq_false e,Bool.false_or];exact Zfq k r
theorem Zd8(kvs:List (κ×V))(k:κ)(v:V):(putK kvs k v).length≤kvs.length+1:=by
 unfold putK
 split
 ·rw[List.length_map];omega
 ·rw[List.length_append,List.length_cons,List.length_nil];omega
theorem RelO.isSome_eq{o:Option V}{u:Option Value}(r:RelO o u):o.isSome=u.isSome:=by
 cases o with
 |none=>cases u with
  |none=>rfl
  |some _=>exact(show False from r).elim
 |some _=>cases u with
  |none=>exact(show False from r).elim
  |some _=>rfl
theorem RelO.getD{o:Option V}{u:Option Value}{d:V}{d':Value}(r:RelO o u)(rd:RelV d d'):RelV (o.getD d) (u.getD d'):=by
 cases o with
 |none=>cases u with
  |none=>exact rd
  |some _=>exact(show False from r).elim
 |some _=>cases u with
  |none=>exact(show False from r).elim
  |some _=>exact r
theorem KV.val{kvs:List (κ×V)}{vs:List (κ×Value)}(r:KV kvs vs)(k:κ):RelO (valV kvs k) (valueAt vs k):=by
 unfold KV at r
 induction r with
 |nil=>exact True.intro
 | @cons p q ps qs h t ih=>
  obtain⟨h1,h2⟩:=h
  by_cases e:p.1=k
  ·have e':q.1=k:=h1.symm.trans e
   have b:valueAt (q::qs) k=some q.2:=by simp[valueAt,List.find?_cons,e']
   rw[Zdy e,b];exact h2
  ·have e':¬q.1=k:=fun z=>e (h1.trans z)
   have b:valueAt (q::qs) k=valueAt qs k:=by simp[valueAt,List.find?_cons,e']
   rw[Zdz e,b];exact ih
theorem KV.any{kvs:List (κ×V)}{vs:List (κ×Value)}(r:KV kvs vs)(k:κ):(kvs.any fun kv=>decide (kv.1=k))=vs.any fun kv=>decide (kv.1=k):=by
 unfold KV at r
 induction r with
 |nil=>rfl
 |cons h t ih=>rw[List.any_cons,List.any_cons,ih,h.1]
theorem KV.repl{kvs:List (κ×V)}{vs:List (κ×Value)}(r:KV kvs vs)(k:κ){y:V}{u:Value}(ry:RelV y u):
  KV (kvs.map fun kv=>if kv.1=k then(kv.1,y)else kv) (vs.map fun kv=>if kv.1=k then(kv.1,u)else kv):=by
 unfold KV at r⊢
 induction r with
 |nil=>exact .nil
 | @cons p q ps qs h t ih=>
  rw[List.map_cons,List.map_cons]
  refine .cons ?_ ih
  obtain⟨h1,h2⟩:=h
  by_cases e:p.1=k
  ·rw[if_pos e,if_pos (h1.symm.trans e)];exact⟨h1,ry⟩
  ·rw[if_neg e,if_neg (fun z=>e (h1.trans z))];exact⟨h1,h2⟩
theorem KV.put{kvs:List (κ×V)}{vs:List (κ×Value)}(r:KV kvs vs)(k:κ){y:V}{u:Value}(ry:RelV y u):KV (putK kvs k y) (stored vs k u):=by
 unfold putK stored
 rw[r.any k]
 by_cases e:(vs.any fun kv=>decide (kv.1=k))=true
 ·rw[if_pos e,if_pos e];exact r.repl k ry
 ·rw[if_neg e,if_neg e];exact Paired.snoc r ⟨rfl,ry⟩
theorem KV.length{kvs:List (κ×V)}{vs:List (κ×Value)}(r:KV kvs vs):kvs.length=vs.length:=Paired.length r
end
theorem Zh2{P:Program}{w:World}{k:Key}{u:Value}(r:RelV (kV k) u):(Zo P w).is k u=true:=by
 cases k with
 |inl i=>obtain⟨t,e⟩:=(show∃t,u=Value.int i t from r);subst e;exact Zhy P w i t
 |inr x=>obtain⟨t,e⟩:=(show∃t,u=Value.str x t from r);subst e;exact Zhz P w x t
theorem Zgv{P:Program}{w:World}:∀{ks:List Key} {us:List Value},Vals (ks.map kV) us→ItemsAre (Zo P w) ks us
 | [],_,r=>by rw[List.map_nil]at r;cases r;exact .nil
 |k::ks,_,r=>by
  rw[List.map_cons]at r
  cases r with
  |cons h t=>exact .cons (Zh2 h) (Zgv t)
noncomputable abbrev KT(H:Hp):List (List Key×V)→List (List Key×Addr×Value)→Prop:=Paired fun p q=>p.1=q.1∧H q.2.1=some (.tup (p.1.map kV))∧RelV p.2 q.2.2
theorem KT.val{H:Hp}{kvs:List (List Key×V)}{xs:List (List Key×Addr×Value)}(r:KT H kvs xs)(k:List Key):RelO (valV kvs k) ((atKey xs k).map (·.2)):=by
 induction r with
 |nil=>exact True.intro
 | @cons p q ps qs h t ih=>
  obtain⟨h1,_,h2⟩:=h
  by_cases e:p.1=k
  ·have e':q.1=k:=h1.symm.trans e
   have b:atKey (q::qs) k=some q.2:=by simp[atKey,List.find?_cons,e']
   rw[Zdy e,b];exact h2
  ·have e':¬q.1=k:=fun z=>e (h1.trans z)
   have b:atKey (q::qs) k=atKey qs k:=by simp[atKey,List.find?_cons,e']
   rw[Zdz e,b];exact ih
theorem KT.repl{H:Hp}{kvs:List (List Key×V)}{xs:List (List Key×Addr×Value)}(r:KT H kvs xs)(k:List Key){y:V}{u:Value}(ry:RelV y u):
  KT H (kvs.map fun kv=>if kv.1=k then(kv.1,y)else kv) (xs.map (putAt k u)):=by
 induction r with
 |nil=>exact .nil
 | @cons p q ps qs h t ih=>
  rw[List.map_cons,List.map_cons]
  refine .cons ?_ ih
  obtain⟨h1,h2,h3⟩:=h
  unfold putAt
  by_cases e:p.1=k
  ·rw[if_pos e,if_pos (h1.symm.trans e)];exact⟨h1,h2,ry⟩
  ·rw[if_neg e,if_neg (fun z=>e (h1.trans z))];exact⟨h1,h2,h3⟩
theorem KT.put{H:Hp}{kvs:List (List Key×V)}{xs:List (List Key×Addr×Value)}(r:KT H kvs xs)(k:List Key){b:Addr}{y:V}{u:Value}(hb:H b=some (.tup (k.map kV)))(ry:RelV y u):
  KT H (putK kvs k y) (storedH xs k b u):=by
 have e:(kvs.any fun kv=>decide (kv.1=k))=(atKey xs k).isSome:=by
  rw[Zfq,(r.val k).isSome_eq,Option.isSome_map]
 unfold putK storedH
 rw[e]
 by_cases q:(atKey xs k).isSome=true
 ·rw[if_pos q,if_pos q];exact r.repl k ry
 ·rw[if_neg q,if_neg q];exact Paired.snoc r ⟨rfl,hb,ry⟩
theorem KT.keeps{H H':Hp}{kvs:List (List Key×V)}{xs:List (List Key×Addr×Value)}(r:KT H kvs xs)(ht:∀b ys,H b=some (.tup ys)→H' b=some (.tup ys)):KT H' kvs xs:=
 Paired.mapP r fun _ _ z=>⟨z.1,ht _ _ z.2.1,z.2.2⟩
section
variable{P:Program}{w:World}{H:Hp}{h:Heap}{a:Addr}
theorem Zus{u:HO}(ok:HOk P w H h)(e:Rd H a u):Zba P w H h a u:=e.ok ok
theorem Zfr{kvs:List (Key×V)}(ok:HOk P w H h)(e:RdK H a kvs):kvs.length≤sizeLine∧(a==sysModules)=false∧∃vs,KV kvs vs∧h.DictOf (Zo P w) a vs:=
 let⟨ep,e⟩:=e;let⟨z,y,vs,r,d⟩:=(show Zba P w H h a (.dK kvs ep)from Zus ok e);⟨z,y,vs,r,d.dictOf⟩
theorem Zut{kvs:List (Key×V)}(ok:HOk P w H h)(e:HK H a kvs):kvs.length≤sizeLine∧(a==sysModules)=false∧∃vs,KV kvs vs∧h.DictOf (Zo P w) a vs:=Zfr ok e.rd
theorem Zd9{ks:List Key}(ok:HOk P w H h)(e:H a=some (.tup (ks.map kV))):(tupleKind (Zo P w)).is h ks a:=by
 obtain⟨_,its,r,o,h1,h2,n,h3⟩:=(show Zba P w H h a (.tup (ks.map kV))from ok a _ e)
 exact⟨o,its.toArray,n,h1,h2,h3,by simpa using Zgv r⟩
theorem Zh3{kvs:List (List Key×V)}(ok:HOk P w H h)(e:RdT H a kvs):kvs.length≤sizeLine∧(a==sysModules)=false∧
  ∃xs,KT H kvs xs∧h.DictOfH (tupleKind (Zo P w)) a xs:=by
 obtain⟨ep,bs,e⟩:=e
 obtain⟨z,y,xs,r,o,es,h1,h2,h3,h4,h5,_⟩:=(show Zba P w H h a (.dT kvs ep bs)from Zus ok e)
 refine⟨z,y,xs,r,o,es,ep,h1,h2,h3,h4,fun x hx=>?_,h5⟩
 have all:∀{l:List (List Key×V)} {m:List (List Key×Addr×Value)},KT H l m→∀x∈m,(tupleKind (Zo P w)).is h x.1 x.2.1:=by
  intro l m q
  induction q with
  |nil=>intro x hx;exact nomatch hx
  | @cons p q ps qs hq t ih=>
   intro x hx
   rcases List.mem_cons.mp hx with e|hx
   ·subst e
    exact Zd9 ok (by rw[←hq.1];exact hq.2.1)
   ·exact ih x hx
 exact all r x hx
theorem Zxs{kvs:List (List Key×V)}(ok:HOk P w H h)(e:HTt H a kvs):kvs.length≤sizeLine∧(a==sysModules)=false∧
  ∃xs,KT H kvs xs∧h.DictOfH (tupleKind (Zo P w)) a xs:=Zh3 ok e.rd
end
noncomputable def DGet(H:Hp)(a:Addr)(y:V)(r:Option V):Prop:=
 (∃kvs k,RdK H a kvs∧y=kV k∧r=valV kvs k)∨∃kvs k b,RdT H a kvs∧y= .ref b∧H b=some (.tup (k.map kV))∧r=valV kvs k
noncomputable def DPut(H:Hp)(a:Addr)(y v:V)(R:Hp→Prop):Prop:=
 (∃kvs k,HK H a kvs∧y=kV k∧kvs.length<sizeLine∧∀ep,R (upd H a (.dK (putK kvs k v) ep)))∨
 ∃kvs k b,HTt H a kvs∧y= .ref b∧H b=some (.tup (k.map kV))∧kvs.length<sizeLine∧∀ep ep0 bs,H a=some (.dT kvs ep0 bs)→R (upd H a (.dT (putK kvs k v) ep (putB kvs bs k b)))
theorem DGet.k{H:Hp}{a:Addr}{kvs:List (Key×V)}{k:Key}(e:HK H a kvs):DGet H a (kV k) (valV kvs k):=.inl ⟨kvs,k,e.rd,rfl,rfl⟩
theorem DGet.t{H:Hp}{a b:Addr}{kvs:List (List Key×V)}{k:List Key}(e:HTt H a kvs)(eb:H b=some (.tup (k.map kV))):DGet H a (.ref b) (valV kvs k):=.inr ⟨kvs,k,b,e.rd,rfl,eb,rfl⟩
theorem DPut.k{H:Hp}{a:Addr}{kvs:List (Key×V)}{k:Key}{v:V}{R:Hp→Prop}(e:HK H a kvs)(hl:kvs.length<sizeLine)(h:∀ep,R (upd H a (.dK (putK kvs k v) ep))):DPut H a (kV k) v R:=.inl ⟨kvs,k,e,rfl,hl,h⟩
theorem DPut.t{H:Hp}{a b:Addr}{kvs:List (List Key×V)}{k:List Key}{v:V}{R:Hp→Prop}(e:HTt H a kvs)(eb:H b=some (.tup (k.map kV)))(hl:kvs.length<sizeLine)(h:∀ep ep0 bs,H a=some (.dT kvs ep0 bs)→R (upd H a (.dT (putK kvs k v) ep (putB kvs bs k b)))):
  DPut H a (.ref b) v R:=.inr ⟨kvs,k,b,e,rfl,eb,hl,h⟩
section
variable{X:Cx}{pins:List (Addr×Obj)}{σ:St}{H:Hp}{s:Shared}{a:Addr}{y v:V}{u r:Value}{o:Option V}{A:Around}{E:Value→Shared→Prop}
theorem Inv.big(I:Inv X pins σ H s):sysModules<s.heap.objs.size:=by
 have h:mainGlobals<s.heap.objs.size:=(I.mod.glob.keeps I.bk).lt
 exact Nat.lt_trans (by decide) h
theorem Zln{Q:Value→Shared→Prop}(hu:A.units+1<cLine)(I:Inv X pins σ H s)(g:DGet H a y (some v))(ry:RelV y u)(h:∀w' s',Inv X pins σ H s'→RelV v w'→Q w' s'):
  wpAny (model X.prog X.w) A (getItem (.ref a) u) Q E s:=by
 rcases g with⟨kvs,k,e,ey,l⟩|⟨kvs,k,b,e,ey,eb,l⟩
 ·subst ey
  obtain⟨z,hd,vs,rel,dd⟩:=Zfr I.hok e
  obtain⟨w',hw,rw'⟩:=RelO.some_of (v:=v) (o:=valueAt vs k) (by rw[l];exact rel.val k)
  exact wpAny_getItem_of (Zh2 ry) dd.mapOf hw (h w' _ (I.tok _) rw')
 ·subst ey
  cases(show u=Value.ref b from ry)
  obtain⟨z,hd,xs,rel,dd⟩:=Zh3 I.hok e
  obtain⟨w',hw,rw'⟩:=RelO.some_of (v:=v) (o:=(atKey xs k).map (·.2)) (by rw[l];exact rel.val k)
  obtain⟨p,hp,hp2⟩:=Option.map_eq_some_iff.mp hw
  refine wpAny_getItem_heap (tupleKind_room_in1 hu) (Zd9 I.hok eb) dd hp ?_
  rw[hp2]
  exact h w' _ (I.tok _) rw'
theorem d_in{Q:Value→Shared→Prop}(hu:A.units+1<cLine)(I:Inv X pins σ H s)(g:DGet H a y o)(ry:RelV y u)(h:∀s',Inv X pins σ H s'→Q (.bool o.isSome) s'):
  wpAny (model X.prog X.w) A (compareOp .In u (.ref a)) Q E s:=by
 rcases g with⟨kvs,k,e,ey,l⟩|⟨kvs,k,b,e,ey,eb,l⟩
 ·subst ey
  obtain⟨z,hd,vs,rel,dd⟩:=Zfr I.hok e
  refine wpAny_in_of (Zh2 ry) hd dd.mapOf ?_
  rw[←(rel.val k).isSome_eq,←l]
  exact h _ (I.tok _)
 ·subst ey
  cases(show u=Value.ref b from ry)
  obtain⟨z,hd,xs,rel,dd⟩:=Zh3 I.hok e
  refine wpAny_in_heap (tupleKind_room_in1 hu) (Zd9 I.hok eb) hd dd ?_
  have q:=(rel.val k).isSome_eq
  rw[Option.isSome_map]at q
  rw[←q,←l]
  exact h _ (I.tok _)
theorem Zq9{Q:Value→Shared→Prop}(hu:A.units+1<cLine)(I:Inv X pins σ H s)(g:DGet H a y o)(ry:RelV y u)(h:∀s',Inv X pins σ H s'→Q (.bool (!o.isSome)) s'):
  wpAny (model X.prog X.w) A (compareOp .NotIn u (.ref a)) Q E s:=by
 rcases g with⟨kvs,k,e,ey,l⟩|⟨kvs,k,b,e,ey,eb,l⟩
 ·subst ey
  obtain⟨z,hd,vs,rel,dd⟩:=Zfr I.hok e
  refine wpAny_notIn_of (Zh2 ry) hd dd.mapOf ?_
  rw[←(rel.val k).isSome_eq,←l]
  exact h _ (I.tok _)
 ·subst ey
  cases(show u=Value.ref b from ry)
  obtain⟨z,hd,xs,rel,dd⟩:=Zh3 I.hok e
  refine wpAny_notIn_heap (tupleKind_room_in1 hu) (Zd9 I.hok eb) hd dd ?_
  have q:=(rel.val k).isSome_eq
  rw[Option.isSome_map]at q
  rw[←q,←l]
  exact h _ (I.tok _)
theorem Zlo{h':Heap}{t':Nat}{ob:HO}(I:Inv X pins σ H s)(mu:Mut (H a))(hs:Heap.SameBut a s.heap h')(he:∃q,h'.get? a=some q)(new:Zba X.prog X.w (upd H a ob) h' a ob):
  Inv X pins σ (upd H a ob) {s with heap:=h',toks:=t'}:=
 I.write (x:=a) (e:=a) mu (.inl rfl) (fun b q hb z=>(hs.2 b hb).trans z) he new
theorem Zuu{P:Program}{w:World}{h':Heap}{kvs:List (Key×V)}{vs:List (Key×Value)}(z:kvs.length≤sizeLine)(hd:(a==sysModules)=false)(rel:KV kvs vs)(dd:h'.DictOf (Zo P w) a vs):
  ∃ep,∀H':Hp,Zba P w H' h' a (.dK kvs ep):=let⟨ep,dd⟩:=dd.dictAt;⟨ep,fun _=>⟨z,hd,vs,rel,dd⟩⟩
theorem Zlp{R:Hp→Prop}{Q:Unit→Shared→Prop}(hu:A.units+1<cLine)(I:Inv X pins σ H s)(g:DPut H a y v R)(ry:RelV y u)(rv:RelV v r)(h:∀H' s',R H'→Inv X pins σ H' s'→Q () s'):
  wpAny (model X.prog X.w) A (setItem (.ref a) u r) Q E s:=by
 rcases g with⟨kvs,k,e,ey,l,eH⟩|⟨kvs,k,b,e,ey,eb,l,eH⟩
 ·subst ey
  obtain⟨z,hd,vs,rel,dd⟩:=Zut I.hok e
  have hz:vs.length≤sizeLine:=by rw[←rel.length];exact z
  have hl:(putK kvs k v).length≤sizeLine:=by have:=Zd8 kvs k v;omega
  refine wpAny_setItem_pairs (hsz:=hz) (Zh2 ry) dd fun h' dd' hs=>?_
  have he:∃q,h'.get? a=some q:=let⟨q,_,_,hq,_⟩:=dd';⟨q,hq⟩
  obtain⟨ep,ok⟩:=Zuu hl hd (rel.put k rv) dd'
  exact h _ _ (eH ep) (Zlo I (by obtain⟨e0,e⟩:=e;rw[e];exact True.intro) hs he (ok _))
 ·subst ey
  cases(show u=Value.ref b from ry)
  obtain⟨z,hd,xs,rel,dd⟩:=Zxs I.hok e
  have hz:xs.length≤sizeLine:=by rw[←Paired.length rel];exact z
  have hl:(putK kvs k v).length≤sizeLine:=by have:=Zd8 kvs k v;omega
  refine wpAny_setItem_heap (hsz:=hz) (tupleKind_room_in1 hu) (Zd9 I.hok eb) dd fun h' dd' hs=>?_
  obtain⟨q,es,ep,hq,h2,h3,h4,_,h5⟩:=dd'
  obtain⟨e0,bs,e⟩:=e
  have hb:(xs.map fun x=>x.2.1)=bs:=by
   obtain⟨_,_,xs',r',_,_,w1,_,w3,w4,_,w6⟩:=(show Zba X.prog X.w H s.heap a (.dT kvs e0 bs)from I.hok a _ e)
   obtain⟨_,_,_,y1,_,y3,y4,_⟩:=dd
   rw[w1]at y1;cases y1
   rw[w3]at y3;cases y3
   have:xs'.map (fun x=>x.2.1)=xs.map fun x=>x.2.1:=by
    have z:=congrArg (List.map DictEntry.key) (w4.symm.trans y4)
    rw[List.map_map,List.map_map]at z
    have inj:∀{l m:List (List Key×Addr×Value)},l.map (DictEntry.key∘entryOfKey (tupleKind (Zo X.prog X.w)))=m.map (DictEntry.key∘entryOfKey (tupleKind (Zo X.prog X.w)))→(l.map fun x=>x.2.1)=m.map fun x=>x.2.1:=by
     intro l
     induction l with
     |nil=>intro m z;cases m with
      |nil=>rfl
      |cons _ _=>cases z
     |cons x l ih=>intro m z;cases m with
      |nil=>cases z
      |cons y m=>
       rw[List.map_cons,List.map_cons]at z⊢
       injection z with z1 z2
       have z1':Value.ref x.2.1=Value.ref y.2.1:=z1
       injection z1' with z1'
       rw[z1',ih z2]
    exact inj z
   rw[←this];exact w6
  have hb2:((storedH xs k b r).map fun x=>x.2.1)=putB kvs bs k b:=by
   have ee:(kvs.any fun kv=>decide (kv.1=k))=(atKey xs k).isSome:=by
    rw[Zfq,(rel.val k).isSome_eq,Option.isSome_map]
   unfold putB storedH
   rw[ee]
   by_cases qq:(atKey xs k).isSome=true
   ·rw[if_pos qq,if_pos qq,List.map_map,←hb]
    refine List.map_congr_left fun x _=>?_
    show(putAt k r x).2.1=x.2.1
    unfold putAt
    split<;> rfl
   ·rw[if_neg qq,if_neg qq,List.map_append,hb];rfl
  refine h _ _ (eH ep e0 bs e) (Zlo I (by rw[e];exact True.intro) hs ⟨q,hq⟩ ⟨hl,hd,_,(rel.put k eb rv).keeps fun c ys ec=>?_,q,es,hq,h2,h3,h4,h5,hb2⟩)
  rw[Zs (Zj8 ec e (fun z=>nomatch z))]
  exact ec
end
section
variable{X:Cx}{pins:List (Addr×Obj)}{σ:St}{H:Hp}{s:Shared}{a:Addr}{kvs:List (Key×V)}{k:Key}{u:Value}{A:Around}{E:Value→Shared→Prop}
end
noncomputable def NoSl(i:Expr):Prop:=∀ov iv,subscripted i false ov iv=operate [ov,iv] (getItem ov iv)
theorem Zra{prog:Program}{w:World}{A:Around}{E:Value→Shared→Prop}{s:Shared}{env:Env}{value slice:Expr}{pos:Pos}{T id:String}{Q:Value→Shared→Prop}
  (hl:typeLookup (.type T) "__getitem__"=pure (some (.builtin id))) (hs:NoSl slice)
  (h:wpAny (model prog w) A (eval value env) (fun o s₁=>wpAny (model prog w) A (eval slice env) (fun i s₂=>s₂.TypeIs o T∧wpAny (model prog w) A (getItem o i) Q E s₂) E s₁) E s):
  wpAny (model prog w) A (eval (.Subscript value slice pos) env) Q E s:=by
 refine Subscript_ (wpAny_mono h (fun o s₁ h₁=>wpAny_mono h₁ (fun i s₂ h₂=>?_) fun _ _ x=>x) fun _ _ x=>x)
 obtain⟨hT,h₂⟩:=h₂
 unfold subscriptTail
 refine wpAny_bind ?_
 rw[getitemInPython_of_ne hT.not_modules]
 refine wpAny_bind (wpAny_specialOf hT hl ?_)
 have fin:wpAny (model prog w) A (subscripted slice false o i) (fun r s₃=>wpAny (model prog w) A (letTemporaryGo value o r >>=fun _=>pure r) Q E s₃) E s₂:=by
  rw[hs o i]
  exact wpAny_operating (wpAny_mono h₂ (fun r s₃ h₃=>wpAny_bind (wpAny_letTemporaryGo (wpAny_pure h₃))) fun _ _ x=>x)
 first
  |exact wpAny_pure (wpAny_bind fin)
  |exact wpAny_bind (wpAny_pure (wpAny_bind fin))
  |exact wpAny_bind fin
theorem Zh4{X:Cx}{pins:List (Addr×Obj)}{σ:St}{H:Hp}{s:Shared}{a:Addr}{y:V}{o:Option V}(I:Inv X pins σ H s)(g:DGet H a y o):s.TypeIs (.ref a) "dict":=by
 rcases g with⟨kvs,k,e,_,_⟩|⟨kvs,k,b,e,_,_,_⟩
 ·obtain⟨_,_,vs,_,dd⟩:=Zfr I.hok e
  exact dd.typeIs
 ·obtain⟨_,_,xs,_,dd⟩:=Zh3 I.hok e
  exact dd.typeIs
noncomputable def Zuv(td ty:TE):TE:=fun σ H Q=>td σ H fun x H1=>ty σ H1 fun y H2=>∃a v,x= .ref a∧DGet H2 a y (some v)∧Q v H2
noncomputable def tDIn(ty td:TE):TE:=fun σ H Q=>ty σ H fun y H1=>td σ H1 fun x H2=>∃a o,x= .ref a∧DGet H2 a y o∧Q (.bl o.isSome) H2
noncomputable def Zxt(ty td:TE):TE:=fun σ H Q=>ty σ H fun y H1=>td σ H1 fun x H2=>∃a o,x= .ref a∧DGet H2 a y o∧Q (.bl (!o.isSome)) H2
noncomputable def Zuw(td ty tv:TE):TS:=fun D σ H=>tv σ H fun v H1=>td σ H1 fun x H2=>ty σ H2 fun y H3=>∃a,x= .ref a∧DPut H3 a y v (D.nx σ)
noncomputable def Z1u(td ty tv:TE)(rd:V→V→Hp→VK→Prop):TS:=fun D σ H=>td σ H fun x H1=>ty σ H1 fun y H2=>∃a v,x= .ref a∧DGet H2 a y (some v)∧
 tv σ H2 fun y2 H3=>rd v y2 H3 fun z H4=>DPut H4 a y z (D.nx σ)
noncomputable def Z1v(td ty:TE):TS:=fun D σ H=>td σ H fun x H1=>ty σ H1 fun y H2=>∃a kvs k,x= .ref a∧HK H2 a kvs∧y=kV k∧(valV kvs k).isSome=true∧∀ep,D.nx σ (upd H2 a (.dK (Zq8 kvs k) ep))
section
variable{X:Cx}{o i e value:Expr}{pos pos' tpos:Pos}{td ty tv:TE}
theorem Zrb(hu:X.A.units+1<cLine)(ho:PE X o td)(hi:PE X i ty)(hs:NoSl i):PE X (.Subscript o i pos) (Zuv td ty):=by
 intro pins s σ H Q I h
 refine Zra PySem.F.slot_dict_getitem.lookup hs (thn (ho pins s σ H _ I h) fun u s1 ⟨x,H1,I1,rx,q1⟩=>thn (hi pins s1 σ H1 _ I1 q1) fun iv s2 zq9=>?_)
 obtain⟨y,H2,I2,ry,a,v,ex,g,q2⟩:=zq9
 subst ex
 obtain rfl:u=Value.ref a:=rx
 exact⟨Zh4 I2 g,Zln hu I2 g ry fun w' s3 I3 rw'=>⟨v,H2,I3,rw',q2⟩⟩
theorem Zrc(hu:X.A.units+1<cLine)(ho:PE X o td)(hi:PE X i ty)(hv:PE X value tv)(hs:swapsWith value (some (.Subscript o i pos')) pos.line X.env=pure false):
  PS X (.Assign [.Subscript o i pos'] value pos) (Zuw td ty tv):=by
 intro pins s σ H D I h
 refine wpAny_Assign_Subscript (thn (hv pins s σ H _ I h) fun r s1 ⟨v,H1,I1,rv,q1⟩=>thn (ho pins s1 σ H1 _ I1 q1) fun u s2 ⟨x,H2,I2,rx,q2⟩=>thn (hi pins s2 σ H2 _ I2 q2) fun iv s3 ⟨y,H3,I3,ry,a,ex,g⟩=>?_) hs
 subst ex
 obtain rfl:u=Value.ref a:=rx
 exact Zlp hu I3 g ry rv fun H4 s4 q3 I4=>⟨σ,H4,I4,q3⟩
end
theorem Zn7{P:Program}{w:World}{H:Hp}(h:Heap)(hb:sysModules<h.objs.size):Zba P w H (h.push {cls:=.type "dict",data:=.dict #[]}) h.objs.size (.dK [] 0):=
 ⟨Nat.zero_le _,beq_eq_false_iff_ne.mpr (Ne.symm (Nat.ne_of_lt hb)),[],.nil,_, #[],Heap.get?_push_size _ rfl,⟨rfl,rfl,rfl⟩,rfl,fun _ he=>by simp at he,Pairs.nil,List.nodup_nil⟩
noncomputable def Zpt:TE:=fun _ H Q=>∀p,H p=none→Q (.ref p) (upd H p (.dK [] 0))
noncomputable def Zz5:TE:=fun _ H Q=>∀p,H p=none→Q (.ref p) (upd H p (.dT [] 0 []))
section
variable{X:Cx}{pos:Pos}
theorem Zn8:PE X (.Dict [] [] pos) Zpt:=fun pins s σ H Q I h=>
 wpAny_Dict_empty ⟨.ref s.heap.objs.size,_,I.laid (a:=s.heap.objs.size) (o:=.dK [] 0) (t':=s.toks) (fun _ _ q=>Heap.get?_push_of_some _ q) (Nat.le_refl _) (Zn7 s.heap I.big),rfl,h _ (I.hok.fresh (Nat.le_refl _))⟩
end
noncomputable def Zi5:List (TE×TE)→St→Hp→(List (V×V)→Hp→Prop)→Prop
  | [],_,H,Q=>Q [] H
  | (tk,tv)::r,σ,H,Q=>tk σ H fun x H1=>tv σ H1 fun y H2=>Zi5 r σ H2 fun ps H3=>Q ((x,y)::ps) H3
noncomputable abbrev VV:List (V×V)→List (Value×Value)→Prop:=Paired fun p q=>RelV p.1 q.1∧RelV p.2 q.2
noncomputable def PPs(X:Cx)(pos:Pos)(keys:List (Option Expr))(values:List Expr)(trs:List (TE×TE)):Prop:=
 ∀(pins:List (Addr×Obj)) (s:Shared) (σ:St) (H:Hp) (Q:List (V×V)→Hp→Prop),Inv X pins σ H s→Zi5 trs σ H Q→
  wpAny (model X.prog X.w) X.A (evalPairs (pairTrees keys values X.env pos)) (fun vs s'=>∃ps H',Inv X pins σ H' s'∧VV ps vs∧Q ps H') X.xe s
noncomputable def Zpu(kvs more:List (Key×V)):List (Key×V):=more.foldl (fun acc kv=>putK acc kv.1 kv.2) kvs
noncomputable def Z1w(trs:List (TE×TE)):TE:=fun σ H Q=>∀p,H p=none→Zi5 trs σ (upd H p (.dK [] 0)) fun ps H2=>H2 p=some (.dK [] 0)∧∃kvs:List (Key×V),ps=kvs.map (fun kv=>(kV kv.1,kv.2))∧kvs.length≤15∧∀ep,Q (.ref p) (upd H2 p (.dK (Zpu [] kvs) ep))
structure M1(X:Cx)(o:Expr)(m:Str)(apos:Pos)(e:Expr)(cpos:Pos):Prop where
 base:attributeBase o m X.env (eval o X.env)=eval o X.env
 few:((backTo cpos (starEach [e] X.env)).all (fun x=>!x.1)&&(backToKw cpos (keywordEach [] X.env)).all (fun x=>x.1.isSome)
  &&decide (([e]:List Expr).length+([]:List Keyword).length+(if([]:List Keyword).isEmpty then 0 else 1)<30))=true
 line:(apos.endLine==cpos.line)=true
 trees:backTo cpos (starEach [e] X.env)=[(false,eval e X.env)]
structure M2(X:Cx)(o:Expr)(m:Str)(apos:Pos)(e f:Expr)(cpos:Pos):Prop where
 base:attributeBase o m X.env (eval o X.env)=eval o X.env
 few:((backTo cpos (starEach [e,f] X.env)).all (fun x=>!x.1)&&(backToKw cpos (keywordEach [] X.env)).all (fun x=>x.1.isSome)
  &&decide (([e,f]:List Expr).length+([]:List Keyword).length+(if([]:List Keyword).isEmpty then 0 else 1)<30))=true
 line:(apos.endLine==cpos.line)=true
 trees:backTo cpos (starEach [e,f] X.env)=[(false,eval e X.env),(false,eval f X.env)]
noncomputable def IsD(H:Hp)(a:Addr):Prop:=(∃kvs,RdK H a kvs)∨∃kvs,RdT H a kvs
section
variable{X:Cx}{pins:List (Addr×Obj)}{σ:St}{H:Hp}{s:Shared}{a:Addr}{y d:V}{u r:Value}{o:Option V}{A:Around}{E:Value→Shared→Prop}
theorem Zux{Q:Value→Shared→Prop}(hu:A.units+1<cLine)(I:Inv X pins σ H s)(g:DGet H a y o)(ry:RelV y u)(h:∀w' s',Inv X pins σ H s'→RelV (o.getD .non) w'→Q w' s'):
  wpAny (model X.prog X.w) A (call (.builtin "dict.get") [.ref a,u]) Q E s:=by
 rcases g with⟨kvs,k,e,ey,l⟩|⟨kvs,k,b,e,ey,eb,l⟩
 ·subst ey
  obtain⟨z,hd,vs,rel,dd⟩:=Zfr I.hok e
  refine call_meetsIn PySem.F.slot_dict_get dd.typeIs PySem.F.entry_dict_get (PySem.F.args_dict_get_2 _ _) (meets_dict_get (Zo X.prog X.w) a (Zh2 ry) hd) ⟨_,dd.mapOf,h _ _ (I.tok _) ?_⟩
  rw[l]
  exact(rel.val k).getD rfl
 ·subst ey
  cases(show u=Value.ref b from ry)
  obtain⟨z,hd,xs,rel,dd⟩:=Zh3 I.hok e
  refine call_meetsIn PySem.F.slot_dict_get dd.typeIs PySem.F.entry_dict_get (PySem.F.args_dict_get_2 _ _) (meetsH_dict_get (tupleKind (Zo X.prog X.w)) a b hd) ⟨tupleKind_room_in1 hu,k,xs,Zd9 I.hok eb,dd,h _ _ (I.tok _) ?_⟩
  rw[l]
  exact(rel.val k).getD rfl
theorem Zuy{Q:Value→Shared→Prop}(hu:A.units+1<cLine)(I:Inv X pins σ H s)(g:DGet H a y o)(ry:RelV y u)(rd:RelV d r)(h:∀w' s',Inv X pins σ H s'→RelV (o.getD d) w'→Q w' s'):
  wpAny (model X.prog X.w) A (call (.builtin "dict.get") [.ref a,u,r]) Q E s:=by
 rcases g with⟨kvs,k,e,ey,l⟩|⟨kvs,k,b,e,ey,eb,l⟩
 ·subst ey
  obtain⟨z,hd,vs,rel,dd⟩:=Zfr I.hok e
  refine call_meetsIn PySem.F.slot_dict_get dd.typeIs PySem.F.entry_dict_get (PySem.F.args_dict_get_3 _ _ _) (meets_dict_get_default (Zo X.prog X.w) a (Zh2 ry) hd r) ⟨_,dd.mapOf,h _ _ (I.tok _) ?_⟩
  rw[l]
  exact(rel.val k).getD rd
 ·subst ey
  cases(show u=Value.ref b from ry)
  obtain⟨z,hd,xs,rel,dd⟩:=Zh3 I.hok e
  refine call_meetsIn PySem.F.slot_dict_get dd.typeIs PySem.F.entry_dict_get (PySem.F.args_dict_get_3 _ _ _) (meetsH_dict_get_default (tupleKind (Zo X.prog X.w)) a b hd r) ⟨tupleKind_room_in1 hu,k,xs,Zd9 I.hok eb,dd,h _ _ (I.tok _) ?_⟩
  rw[l]
  exact(rel.val k).getD rd
end
noncomputable def Zz6(td ty:TE):TE:=fun σ H Q=>td σ H fun x H1=>∃a,x= .ref a∧IsD H1 a∧ty σ H1 fun y H2=>∃o,DGet H2 a y o∧Q (o.getD .non) H2
noncomputable def Zz7(td ty tx:TE):TE:=fun σ H Q=>td σ H fun x H1=>∃a,x= .ref a∧IsD H1 a∧ty σ H1 fun y H2=>tx σ H2 fun z H3=>∃o,DGet H3 a y o∧Q (o.getD z) H3
noncomputable def Zz8(td ty:TE):TE:=fun σ H Q=>td σ H fun x H1=>∃a,x= .ref a∧IsD H1 a∧ty σ H1 fun y H2=>∃kvs k v,HK H2 a kvs∧y=kV k∧valV kvs k=some v∧∀ep,Q v (upd H2 a (.dK (Zq8 kvs k) ep))
noncomputable def Zz9(td ty tx:TE):TE:=fun σ H Q=>td σ H fun x H1=>∃a,x= .ref a∧IsD H1 a∧ty σ H1 fun y H2=>tx σ H2 fun z H3=>∃kvs k,HK H3 a kvs∧y=kV k∧
 (∀v ep,valV kvs k=some v→Q v (upd H3 a (.dK (Zq8 kvs k) ep)))∧(valV kvs k=none→Q z H3)
section
variable{X:Cx}{o e f:Expr}{apos cpos:Pos}{td ty tx:TE}
end
section
variable{X:Cx}{pins:List (Addr×Obj)}{σ:St}{H:Hp}{s:Shared}{a:Addr}{kvs:List (Key×V)}{A:Around}{E:Value→Shared→Prop}
end
section
variable{X:Cx}{pins:List (Addr×Obj)}{σ:St}{H:Hp}{s:Shared}{a:Addr}{y:V}{u:Value}{A:Around}{E:Value→Shared→Prop}
end
end L2
namespace Att
open PySem PySem.W PySem.Calls PyProof.Rows
theorem Zea{P:Params}{h:Heap}:∀(ns:List Int) (vs:List Value),WellAll P h vs (ns.map WData.int)→IntsAre vs ns:=by
 intro ns
 induction ns with
 |nil=>
  intro vs w
  rw[List.map_nil]at w
  cases w
  exact .nil
 |cons n ns ih=>
  intro vs w
  rw[List.map_cons]at w
  cases w with
  |cons a b=>
   cases a
   exact .cons _ _ (ih _ b)
theorem Zlq{l:OpenLaw}{n:Nat}(hn:l.most=some n){P:Params}{h:Heap}{args:List WData}{vals:List Value}
  (hpre:l.row.toRowW.claim.pre args=true) (hwl:WellAll P h vals args):
  ∃a vs ns,vals=[Value.ref a]∧args=[WData.list (ns.map WData.int)]∧h.get? a=some {cls:=.type "list",data:=.seq vs.toArray}∧IntsAre vs ns∧ns.length≤n:=by
 have hsh:WShape.hasAll [] args [.list .int]=true:=(pre_splitW hpre).1
 have hc:l.pre.holds [] {args:=args}=true:=(pre_splitW hpre).2
 obtain⟨d,r,rfl,h1,h2⟩:=hasAllW_cons hsh
 obtain rfl:=hasAllW_nil h2
 obtain⟨xs,rfl,h3⟩:=hasW_list h1
 obtain⟨ns,rfl⟩:=items_int h3
 have hlen:ns.length≤n:=by
  unfold OpenLaw.pre at hc
  have h4:(WTm.not (.lt (.lit (.int (n:Int))) (.len (.arg 0)))).holds [] {args:=[.list (ns.map .int)]}=true:=by
   have h4:=(holds_andW hc).1
   rw[hn]at h4
   exact h4
  have h5:=condW_of h4 (w_not (w_lt w_lit (w_len_list (w_arg rfl))))
  rw[List.length_map]at h5
  refine Nat.le_of_not_lt fun q=>?_
  have q':(n:Int)<((ns.length:Nat):Int):=by omega
  first
   | (rw[decide_eq_true q']at h5;exact absurd h5 (by decide))
   | (simp at h5;omega)
 cases hwl with
 |cons w1 w2=>
  cases w2
  cases w1 with
  |list ho hall=>exact⟨_,_,ns,rfl,rfl,ho,Zea ns _ hall,hlen⟩
theorem Zlr(l:OpenLaw)(args:List WData):l.row.toRowW.claim.post args (.bool true) args=true:=
 postW_of (r:=l.row.toRowW) (X:=(true==true))
  (show WShape.has [] (.bool true) .bool=true by first|rfl|decide|simp[WShape.has,WShape.arms,WShape.armsAll])
  (show(WTm.eq .res (.lit (.bool true))).value [] {args:=args,res:=some (.bool true),after:=args}=some (.bool (true==true))from w_eq_bool (w_res rfl) w_lit) rfl
theorem attach_call{l:OpenLaw}{n:Nat}{q:Program}{loose:List Str}{XP:(Str→Option Value)→Heap→Prop}{YP:World→Heap→Prop}{d:DefRec}
  (hn:l.most=some n) (hdf:d.params.defaults=[])
  (call:∀(w:World) (s₀ s₁:Shared) (mg mb:Str→Option Value) (fa:Addr) (o:Obj) (pm cd doc:Value) (a:Addr) (vs:List Value) (ns:List Int),
   Ground q loose [] XP w s₀ mg mb s₁.heap→YP w s₁.heap→
   s₁.heap.get? fa=some o→o.data= .func (docDef d.name d.params d.body d.scope pm cd doc)→s₁.heap.CodeRec cd d.name→mg d.name=some (.ref fa)→
   s₁.heap.get? a=some {cls:=.type "list",data:=.seq vs.toArray}→IntsAre vs ns→ns.length≤n→s₁.gens= #[]→
   codeAny (model l.prog w) callerA (.call (.ref fa) ⟨[.ref a],[]⟩) (fun r s'=>r= .ok (.ret (.bool true))∧OldK s₁.heap s'.heap∧s'.os=s₁.os∧AllBare s'.gens) s₁):
  WalkO q loose XP YP l.row.toRowW d [] (fun f vs=>PySem.call f vs):=by
 intro w s₀ s₁ mg mb G Y fa o pm cd doc dV kV ho hd hcd hD hmg hg args vals as hpre hlay hrd hwl hlo
 obtain rfl:dV= .none:=Dflts.none hD hdf
 obtain rfl:kV= .none:=Dflts.noKw hD
 obtain⟨a,vs,ns,rfl,rfl,hobj,hints,hlen⟩:=Zlq hn hpre hwl
 refine enter_call (codeAny_mono (call w s₀ s₁ mg mb fa o pm cd doc a vs ns G Y ho (fd_plain hd) hcd hmg hobj hints hlen hg) fun r s' hq=>?_)
 obtain⟨rfl,h2,h3,h4⟩:=hq
 exact⟨.inl ⟨.bool true,.bool true,[],rfl,fun _=>rfl,.bool true,Zlr l _,fun _=>⟨List.Pairwise.nil,fun _ hm=>(nomatch hm)⟩⟩,h2,h3,h4⟩
section
variable{prog:Program}{w:World}{A:Around}{E:Value→Shared→Prop}{s:Shared}{K:Frag}
noncomputable def Z0a(h:Heap):Heap:={h with objs:= #[]}
noncomputable def Z0b(h:Heap)(L d:Addr):List (Addr×Obj):=(List.range h.objs.size).filterMap fun a=>if a=L∨a=d then none else(h.get? a).map fun o=>(a,o)
end
end Att
namespace L2
open PySem PySem.Spec PyProof.Rows
theorem Zgw:∀{vs:List Value} {ns:List Int},IntsAre vs ns→Vals (ns.map V.int) vs
 |_,_,.nil=>.nil
 |_,_,.cons n t h=>.cons ⟨t,rfl⟩ (Zgw h)
noncomputable def Only(H:Hp):Prop:=∀b,H b=none∨∃o xs,H b=some (.frz o (.lst xs))
theorem Zn9 {P : Program} {w : World} {K : PySem.W.Frag} {mg mb : Str → Option Value} {CX : CXT} {k : Nat} {fa a : Addr} {fd : FuncData} {x : Str} {sp : Sp} {s₁ : Shared} {vs : List Value} {ns : List Int}
    (KX : K.In s₁.heap) (hns : s₁.heap.Ns mainGlobals mg) (hb : s₁.heap.Ns builtinsNs mb) (hbb : ∀ x : Str, x ≠ "__name__" → mb x = bootBuiltins x) (hlim : s₁.heap.NoLimit) (hg : s₁.gens = #[])
    (ha : s₁.heap.get? a = some { cls := .type "list", data := .seq vs.toArray }) (hi : IntsAre vs ns) (hl : ns.length ≤ sizeLine) (hr : Room k callerA)
    (F : ∀ base : Heap, K.In base → base.Ns mainGlobals mg → FnOk P w K mg base CX k fa fd [x] sp) (hbind : ∀ (s : Shared) (u : Value), BindsTo s fd ⟨[u], []⟩ [(x, u)])
    (hsp : ∀ H : Hp, Only H → SqL K H a (ns.map V.int) → sp [.ref a] H (fun v _ => v = .bl true) fun _ _ _ => False)
    (hCX : ∀ H e s', CX [] H s₁ (fun _ _ _ => False) e s' → False) :
    codeAny (model P w) callerA (.call (.ref fa) ⟨[.ref a], []⟩) (fun r s' => r = .ok (.ret (.bool true)) ∧ OldK s₁.heap s'.heap ∧ s'.os = s₁.os ∧ AllBare s'.gens) s₁ := by
  have rv := Zgw hi
  have lenV := hi.length
  -- from an abstract heap in which nothing but the script may be tracked
  have core : ∀ H : Hp, Only H → SqL K H a (ns.map V.int) → HOk P w H s₁.heap → (∀ b, H b ≠ none → b = a) → (H a ≠ none → K.lookup a = none) →
      codeAny (model P w) callerA (.call (.ref fa) ⟨[.ref a], []⟩) (fun r s' => r = .ok (.ret (.bool true)) ∧ OldK s₁.heap s'.heap ∧ s'.os = s₁.os ∧ AllBare s'.gens) s₁ := by
    intro H hO hS hok hA hK
    have base_of : ∀ {b : Addr} {o : Obj}, s₁.heap.get? b = some o → H b = none → (hidT s₁.heap H).get? b = some o := fun e n => Znt e n
    have noA : ∀ {b : Addr} {o : Obj} {es : Array DictEntry} {ep : Nat}, s₁.heap.get? b = some o → o.data = .dict es ep → H b = none := fun {b o es ep} e d => by
      cases q : H b with
      | none => rfl
      | some u =>
        have e' : b = a := hA b (by rw [q]; simp)
        subst e'
        rw [ha] at e; cases e
        have d' : Data.seq vs.toArray _ = Data.dict es ep := d
        cases d'
    have nsK : ∀ {b : Addr} {m : Str → Option Value}, s₁.heap.Ns b m → (hidT s₁.heap H).Ns b m := fun {b m} ⟨o, es, ep, e, d, r⟩ => ⟨o, es, ep, base_of e (noA e d), d, r⟩
    have hKb : K.In (hidT s₁.heap H) := fun b o e => base_of (KX b o e) (by
      cases q : H b with
      | none => rfl
      | some u =>
        have e' : b = a := hA b (by rw [q]; simp)
        subst e'
        rw [hK (by rw [q]; simp)] at e; cases e)
    have hM : Mod K mg (hidT s₁.heap H) := ⟨hKb, nsK hns, ⟨mb, nsK hb, hbb⟩, let ⟨mc, h1, h2⟩ := hlim; ⟨mc, nsK h1, h2⟩⟩
    have e0 : Env0 P w K mg (hidT s₁.heap H) callerA [] s₁ H := ⟨rfl, hM, fun b o e => Zqr e, Nat.le_of_eq (Zk5 _ _), trivial, fun b hb => absurd (show b ∈ ([] : List Addr) from hb) (by simp), hok, .of_eq hg⟩
    refine codeAny_mono ((F _ hKb (nsK hns)).run callerA [] s₁ H ⟨[.ref a], []⟩ [.ref a] [.ref a] _ _ hr e0 (hbind s₁ (.ref a)) (.cons rfl .nil) (hsp H hO hS)) fun r s' h => ?_
    cases r with
    | error e => exact (hCX H e s' h).elim
    | ok fl =>
      cases fl with
      | next => exact False.elim h
      | brk => exact False.elim h
      | cont => exact False.elim h
      | ret u =>
        obtain ⟨v, H', os, bare, un, hok', r', q⟩ := h
        have q' : v = .bl true := q
        subst q'
        obtain rfl : u = Value.bool true := r'
        refine ⟨rfl, OldK.of_keep fun b o e => ?_, os, bare⟩
        cases q : H b with
        | none => exact un.keep b o e q (by intro z; exact absurd (show b ∈ ([] : List Addr) from z) (by simp)) (by simp)
        | some u =>
          rcases hO b with z | ⟨ob, xs, z⟩
          · rw [q] at z; cases z
          · have z2 := un.frzs b ob _ z
            obtain ⟨e1, _⟩ := hok b _ z
            obtain ⟨e2, _⟩ := hok' b _ z2
            rw [e] at e1; cases e1
            exact e2
  cases hk : K.lookup a with
  | some o =>
    -- the script is one of the module's own objects
    have e := KX a o hk
    rw [ha] at e
    cases e
    refine core (fun _ => none) (fun _ => .inl rfl) (.inr ⟨_, vs.toArray, _, hk, rfl, rfl, rfl, by rw [List.size_toArray, lenV]; exact hl, by simpa using rv⟩) (fun b u z => by have z' : (none : Option HO) = some u := z; cases z') (fun b z => absurd rfl z) fun z => absurd rfl z
  | none =>
    refine core (fun b => if b = a then some (.frz { cls := .type "list", data := .seq vs.toArray } (.lst (ns.map V.int))) else none) (fun b => ?_) (.inl (.inr ⟨{ cls := .type "list", data := .seq vs.toArray }, if_pos rfl⟩)) (fun b u z => ?_) (fun b z => ?_) fun _ => hk
    · by_cases hb : b = a
      · exact .inr ⟨_, _, if_pos hb⟩
      · exact .inl (if_neg hb)
    · by_cases hb : b = a
      · have z' := (if_pos hb).symm.trans z
        cases z'
        subst hb
        exact ⟨ha, by rw [List.length_map]; exact hl, vs, _, rv, ha⟩
      · have z' := (if_neg hb).symm.trans z
        cases z'
    · by_cases hb : b = a
      · exact hb
      · exact absurd (if_neg hb) z
end L2
namespace L2
open PySem PySem.Spec PyProof.Rows
noncomputable abbrev KOf{K:PySem.W.Frag}{h:Heap}(_:K.In h):PySem.W.Frag:=K
theorem Zrd{l:PySem.W.OpenLaw}{n k:Nat}{q:Program}{loose:List Str}{XP:(Str→Option Value)→Heap→Prop}{YP:World→Heap→Prop}{d:DefRec}{K:Params→PySem.W.Frag}{CX:World→CXT}{sp:World→Sp}{x:Str}
  (hn:l.most=some n) (hn2:n≤sizeLine) (hdf:d.params.defaults=[]) (hr:Room k callerA)
  (hY:∀(w:World) (h:Heap),YP w h→(K w.params).In h)
  (F:∀(w:World) (mg:Str→Option Value) (fa:Addr) (h:Heap),(K w.params).In h→h.Ns mainGlobals mg→mg d.name=some (.ref fa)→
   ∃fd:FuncData,(∀(s:Shared) (u:Value),BindsTo s fd ⟨[u],[]⟩ [(x,u)])∧
    ∀base:Heap,(K w.params).In base→base.Ns mainGlobals mg→FnOk l.prog w (K w.params) mg base (CX w) k fa fd [x] (sp w))
  (hsp:∀(w:World) (H:Hp) (a:Addr) (ns:List Int),ns.length≤n→Only H→SqL (K w.params) H a (ns.map V.int)→sp w [.ref a] H (fun v _=>v= .bl true) fun _ _ _=>False)
  (hCX:∀(w:World) (H:Hp) (s:Shared) (e:Value) (s':Shared),CX w [] H s (fun _ _ _=>False) e s'→False):
  PySem.W.WalkO q loose XP YP l.row.toRowW d [] (fun f vs=>PySem.call f vs):=by
 refine Att.attach_call hn hdf fun w s₀ s₁ mg mb fa o pm cd doc a vs ns G Y ho hd hcd hmg hobj hints hlen hg=>?_
 have KX:=hY w _ Y
 obtain⟨fd,hb,hF⟩:=F w mg fa _ KX G.T.g hmg
 exact Zn9 KX G.T.g G.T.b G.T.builtins G.T.nolimit hg hobj hints (Nat.le_trans hlen hn2) hr hF hb (fun H hO hS=>hsp w H a ns hlen hO hS) fun H e s'=>hCX w H s₁ e s'
theorem Zoa{l:PySem.W.OpenLaw}{n k:Nat}{q:Program}{loose:List Str}{XP:(Str→Option Value)→Heap→Prop}{YP:World→Heap→Prop}{d:DefRec}{K:Params→PySem.W.Frag}{CX:CXT}{sp:PySem.W.Frag→Sp}{x:Str}
  (hn:l.most=some n) (hn2:n≤sizeLine) (hdf:d.params.defaults=[]) (hr:Room k callerA)
  (hY:∀(w:World) (h:Heap),YP w h→(K w.params).In h)
  (F:∀(w:World) (mg:Str→Option Value) (fa:Addr) (h:Heap),(K w.params).In h→h.Ns mainGlobals mg→mg d.name=some (.ref fa)→
   ∃fd:FuncData,(∀(s:Shared) (u:Value),BindsTo s fd ⟨[u],[]⟩ [(x,u)])∧
    ∀base:Heap,(K w.params).In base→base.Ns mainGlobals mg→FnOk l.prog w (K w.params) mg base CX k fa fd [x] (sp (K w.params)))
  (hsp:∀(K:PySem.W.Frag) (H:Hp) (a:Addr) (ns:List Int),ns.length≤n→Only H→SqL K H a (ns.map V.int)→sp K [.ref a] H (fun v _=>v= .bl true) fun _ _ _=>False)
  (hCX:∀(H:Hp) (s:Shared) (e:Value) (s':Shared),CX [] H s (fun _ _ _=>False) e s'→False):
  PySem.W.WalkO q loose XP YP l.row.toRowW d [] (fun f vs=>PySem.call f vs):=
 Zrd (K:=K) (CX:=fun _=>CX) (sp:=fun w=>sp (K w.params)) hn hn2 hdf hr hY F (fun w H a ns h1 h2 h3=>hsp (K w.params) H a ns h1 h2 h3) fun _ H s e s'=>hCX H s e s'
end L2
namespace L2
open PySem PySem.Spec PyProof.Rows
noncomputable def Zxu(s:Stmt)(j:Nat):Stmt:=match s with
 | .ClassDef _ _ _ body _ _ _ _ _ _ _=>body.getD j (.Pass ⟨0,0,0,0⟩)
 |_=>.Pass ⟨0,0,0,0⟩
noncomputable def Zc9(s:Stmt):Arguments:=match s with
 | .FunctionDef _ a _ _ _ _ _ _ _ _=>a
 |_=>{posonlyargs:=[],args:=[],vararg:=none,kwonlyargs:=[],kw_defaults:=[],kwarg:=none,defaults:=[]}
noncomputable def Zby(s:Stmt):List Stmt:=match s with
 | .FunctionDef _ _ b _ _ _ _ _ _ _=>b
 |_=>[]
noncomputable def Zk(s:Stmt):Scope:=match s with
 | .FunctionDef _ _ _ _ _ _ sc _ _ _=>sc
 |_=>{kind:=.function,names:=[],isGenerator:=false,isCoroutine:=false}
noncomputable abbrev CX0:CXT:=fun _ _ _ _ _ _=>False
noncomputable abbrev E0:XK:=fun _ _ _=>False
theorem Zxv{X:Cx}:Zlf CX0 X E0:=fun _ _ _ _ _ _ _ h=>h.elim
structure Fun(K:PySem.W.Frag)(x qual:Str)(st:Stmt)(f:Addr)(fd:FuncData):Prop where
 ex:∃(oc:Value) (od:Option Addr) (kV doc pm:Value) (an:Option Addr) (cdv ct:Value) (osl:Array (Option Value)),
  fd=PySem.W.fnOf x qual (Zc9 st) (Zby st) (Zk st) .none kV doc pm an cdv ct∧K.lookup f=some ⟨oc,od,.func fd,osl⟩∧PySem.W.codeIn K cdv qual=true
 kp:PySem.W.keepIn K (.ref f)=true
section
variable{P:Program}{w:World}{K:PySem.W.Frag}{mg:Str→Option Value}{base:Heap}
theorem Fun.ok{x qual:Str}{st:Stmt}{f:Addr}{fd:FuncData}{N ps:List Str}{k:Nat}{sp:Sp}(F:Fun K x qual st f fd)(S:FnScope N ps (Zk st))(len:∀vs H Q E,sp vs H Q E→vs.length=ps.length)
  (hbody:∀(cdv:Value) (A:Around) (outer:List Env) (s:Shared) (H:Hp) (vs:List V) (Q:VK) (E:XK),Room k (A.deeper (envOfC qual (Zk st) s.heap.objs.size f cdv))→sp vs H Q E→
   ∃t,PSs (cxOf CX0 P w K mg base N qual (Zk st) f cdv A outer s H E).nox (Zby st) t∧t {nx:=fun _ H'=>Q .non H',rt:=Q} (Zdv N vs) H):FnOk P w K mg base CX0 (k+1) f fd ps sp:=by
 obtain⟨oc,od,kV,doc,pm,an,cdv,ct,osl,rfl,lk,hcd⟩:=F.ex
 refine Zxp lk hcd S len fun A outer s H vs Q E hr hsp=>?_
 obtain⟨t,h,q⟩:=hbody cdv A outer s H vs Q E hr hsp
 exact⟨t,h.nox,q⟩
theorem Fun.binds{x qual:Str}{st:Stmt}{f:Addr}{fd:FuncData}{ps:List Str}(F:Fun K x qual st f fd)
  (h:∀(kV doc pm:Value) (an:Option Addr) (cdv ct:Value) (us:List Value),us.length=ps.length→bindArgs (PySem.W.fnOf x qual (Zc9 st) (Zby st) (Zk st) .none kV doc pm an cdv ct) ⟨us,[]⟩=pure (ps.zip us)):Zbi K fd ps []:=by
 obtain⟨oc,od,kV,doc,pm,an,cdv,ct,osl,rfl,lk,hcd⟩:=F.ex
 exact .all (h kV doc pm an cdv ct)
theorem Zbj{x qual:Str}{st:Stmt}{f:Addr}{oc:Value}{od an:Option Addr}{osl:Array (Option Value)}{kV doc pm cdv ct:Value}(l:K.lookup f=some ⟨oc,od,.func (PySem.W.fnOf x qual (Zc9 st) (Zby st) (Zk st) .none kV doc pm an cdv ct),osl⟩)
  (c:PySem.W.codeIn K cdv qual=true) (k:PySem.W.keepIn K (.ref f)=true):Fun K x qual st f (PySem.W.fnOf x qual (Zc9 st) (Zby st) (Zk st) .none kV doc pm an cdv ct):=⟨⟨oc,od,kV,doc,pm,an,cdv,ct,osl,rfl,l,c⟩,k⟩
end
theorem Zxw{A:Around}{k:Nat}(hr:Room k A):A.units+1<cLine:=Nat.lt_of_le_of_lt (Nat.add_le_add_left (by decide:1≤64) _) hr.units
section
variable{X:Cx}
end
noncomputable def Same(H H':Hp):Prop:=∀b o,H b=some o→H' b=some o
theorem Same.refl(H:Hp):Same H H:=fun _ _ h=>h
theorem Same.trans{H H1 H2:Hp}(a:Same H H1)(b:Same H1 H2):Same H H2:=fun c o h=>b c o (a c o h)
theorem Same.free{H H':Hp}(e:Same H H'){l:Addr}(h:H' l=Option.none):H l=Option.none:=by
 cases q:H l with
 |none=>rfl
 |some o=>
  rw[e l o q]at h
  cases h
section
variable{κ:Type}[DecidableEq κ]
end
end L2
namespace L2
open PySem PySem.Spec PyProof.Rows
theorem PE.imp{X:Cx}{e:Expr}{t t':TE}(h:PE X e t)(w:∀σ H Q,t' σ H Q→t σ H Q):PE X e t':=fun pins s σ H Q I q=>h pins s σ H Q I (w σ H Q q)
theorem PT.imp{X:Cx}{e:Expr}{t t':TT}(h:PT X e t)(w:∀σ H Q,t' σ H Q→t σ H Q):PT X e t':=fun pins s σ H Q I q=>h pins s σ H Q I (w σ H Q q)
theorem PW.imp{X:Cx}{e:Expr}{t t':TT}(h:PW X e t)(w:∀σ H Q,t' σ H Q→t σ H Q):PW X e t':=fun wh pins s σ H Q I q=>h wh pins s σ H Q I (w σ H Q q)
theorem PA.imp{X:Cx}{e:List Expr}{t t':TA}(h:PA X e t)(w:∀σ H Q,t' σ H Q→t σ H Q):PA X e t':=fun pos pins s σ H Q I q=>h pos pins s σ H Q I (w σ H Q q)
theorem PS.imp{X:Cx}{e:Stmt}{t t':TS}(h:PS X e t)(w:∀D σ H,t' D σ H→t D σ H):PS X e t':=fun pins s σ H D I q=>h pins s σ H D I (w D σ H q)
theorem PSs.imp{X:Cx}{e:List Stmt}{t t':TS}(h:PSs X e t)(w:∀D σ H,t' D σ H→t D σ H):PSs X e t':=fun pins s σ H D I q=>h pins s σ H D I (w D σ H q)
theorem PG.imp{X:Cx}{e:Expr}{t t':TG}(h:PG X e t)(w:∀v σ H Q,t' v σ H Q→t v σ H Q):PG X e t':=fun pins s σ H v u Q I r q=>h pins s σ H v u Q I r (w v σ H Q q)
theorem PGs.imp{X:Cx}{e:List Expr}{t t':TGs}(h:PGs X e t)(w:∀v σ H Q,t' v σ H Q→t v σ H Q):PGs X e t':=fun pins s σ H vs us Q I r q=>h pins s σ H vs us Q I r (w vs σ H Q q)
theorem PI.imp{X:Cx}{tg e:Expr}{t t':TI}(h:PI X tg e t)(w:∀σ H R,t' σ H R→t σ H R):PI X tg e t':=fun pins s σ H R I q=>h pins s σ H R I (w σ H R q)
noncomputable def clOf(cells:List (Str×Addr)):List (Str×NameKind)→List (Str×Addr)→List (Str×Addr)
 | [],cs=>cs
 | (n,k)::r,cs=>clOf cells r (if k= .free then(n,(cells.lookup n).getD 0)::cs else cs)
theorem Zda{env:Env}:∀(names:List (Str×NameKind)) (cs:List (Str×Addr)),(∀y∈names,y.2= .free→∃c,env.cells.lookup y.1=some c)→
    (forIn names cs (fun x r=>if(x.2==NameKind.free)=true then do let a←cellOf env x.1;pure (ForInStep.yield ((x.1,a)::r))else pure (ForInStep.yield r)):Sem (List (Str×Addr)))=pure (clOf env.cells names cs)
  | [],cs,_=>by rw[List.forIn_nil];rfl
  | (n,k)::r,cs,h=>by
    rw[List.forIn_cons]
    by_cases hk:k= .free
    · obtain⟨c,hc⟩:=h (n,k) List.mem_cons_self hk
      subst hk
      have e1:cellOf env n=pure c:=by unfold cellOf;rw[hc]
      show((if(NameKind.free==NameKind.free)=true then(cellOf env n >>=fun a=>pure (ForInStep.yield ((n,a)::cs)))else pure (ForInStep.yield cs)) >>=fun s=>_)=_
      rw[if_pos (show(NameKind.free==NameKind.free)=true by decide),e1]
      show(forIn r ((n,c)::cs) _:Sem (List (Str×Addr)))=_
      rw[Zda r _ fun y hy=>h y (List.mem_cons_of_mem _ hy)]
      show _=pure (clOf env.cells r (if NameKind.free=NameKind.free then(n,(env.cells.lookup n).getD 0)::cs else cs))
      rw[if_pos rfl,hc]
      rfl
    · have hb:(k==NameKind.free)=false:=by simpa using hk
      show((if(k==NameKind.free)=true then(cellOf env n >>=fun a=>pure (ForInStep.yield ((n,a)::cs)))else pure (ForInStep.yield cs)) >>=fun s=>_)=_
      rw[hb,if_neg Bool.false_ne_true]
      show(forIn r cs _:Sem (List (Str×Addr)))=_
      rw[Zda r _ fun y hy=>h y (List.mem_cons_of_mem _ hy)]
      show _=pure (clOf env.cells r (if k=NameKind.free then _ else cs))
      rw[if_neg hk]
theorem Zcu{scope:Scope}{env:Env}(h:∀y∈scope.names,y.2= .free→∃c,env.cells.lookup y.1=some c):closureFor scope env=pure (clOf env.cells scope.names []):=by
 simp only[closureFor]
 rw[Zda scope.names [] h]
 rfl
theorem Zi6{cells:List (Str×Addr)}{x:Str}{c:Addr}:∀{names:List (Str×NameKind)} {cs:List (Str×Addr)},(∀y∈names,y.2= .free→∃c,cells.lookup y.1=some c)→
    (cs.lookup x=some c→cells.lookup x=some c)→(clOf cells names cs).lookup x=some c→cells.lookup x=some c
  | [],_,_,h0,e=>h0 e
  | (n,k)::r,cs,h,h0,e=>by
    refine Zi6 (names:=r) (fun y hy=>h y (List.mem_cons_of_mem _ hy)) ?_ e
    intro e'
    by_cases hk:k= .free
    · rw[if_pos hk]at e'
      obtain⟨c',hc⟩:=h (n,k) List.mem_cons_self hk
      rw[hc]at e'
      by_cases hx:x==n
      · simp only[List.lookup_cons,hx]at e'
        cases e'
        have:x=n:=by simpa using hx
        rw[this];exact hc
      · have hx':(x==n)=false:=by simpa using hx
        simp only[List.lookup_cons,hx']at e'
        exact h0 e'
    · rw[if_neg hk]at e';exact h0 e'
theorem Zgx{cells:List (Str×Addr)}{x:Str}:∀{names:List (Str×NameKind)} {cs:List (Str×Addr)},(∃c,cs.lookup x=some c)→∃c,(clOf cells names cs).lookup x=some c
  | [],_,h=>h
  | (n,k)::r,cs,⟨c,h⟩=>by
    refine Zgx (names:=r) ?_
    by_cases hk:k= .free
    · rw[if_pos hk]
      by_cases hx:x==n
      · exact⟨(cells.lookup n).getD 0,by simp only[List.lookup_cons,hx]⟩
      · have hx':(x==n)=false:=by simpa using hx
        exact⟨c,by simp only[List.lookup_cons,hx'];exact h⟩
    · rw[if_neg hk];exact⟨c,h⟩
theorem Zd0{cells:List (Str×Addr)}{x:Str}:∀{names:List (Str×NameKind)} {cs:List (Str×Addr)},(x,NameKind.free)∈names→∃c,(clOf cells names cs).lookup x=some c
  | [],_,h=>nomatch h
  | (n,k)::r,cs,h=>by
    rcases List.mem_cons.mp h with e|e
    · cases e
      refine Zgx (names:=r) ⟨(cells.lookup x).getD 0,?_⟩
      rw[if_pos rfl]
      simp[List.lookup_cons]
    · exact Zd0 (names:=r) e
noncomputable def rlF(env:Env):Str×NameKind→Str×NameKind:=fun(n,k)=>if(k==NameKind.free&&env.scope.kind== .function&&env.kindOf n==some .cell)then(n,NameKind.cell)else(n,k)
theorem Zh5(env:Env)(p:Str×NameKind):(rlF env p).1=p.1:=by
 obtain⟨n,k⟩:=p
 unfold rlF
 dsimp only
 split<;> rfl
theorem Zbp{f:Str×NameKind→Str×NameKind}(h:∀p,(f p).1=p.1)(x:Str):∀names:List (Str×NameKind),(names.map f).lookup x=(names.lookup x).map fun k=>(f (x,k)).2
  | []=>rfl
  | (n,k)::r=>by
    have ih:=Zbp h x r
    have e:f (n,k)=(n,(f (n,k)).2):=Prod.ext (h (n,k)) rfl
    rw[List.map_cons,e,List.lookup_cons,List.lookup_cons]
    cases hx:x==n with
    |true=>
      have:x=n:=by simpa using hx
      subst this
      rfl
    |false=>exact ih
theorem Ze9{x:Str}{k:NameKind}:∀{names:List (Str×NameKind)},names.lookup x=some k→(x,k)∈names
  | [],h=>by simp at h
  | (n,k')::r,h=>by
    rw[List.lookup_cons]at h
    cases hx:x==n with
    |true=>
      rw[hx]at h
      have:x=n:=by simpa using hx
      subst this
      cases h
      exact List.mem_cons_self
    |false=>rw[hx]at h;exact List.mem_cons_of_mem _ (Ze9 h)
theorem Zbz{env:Env}{names:List (Str×NameKind)}{x:Str}{kk:NameKind}(hn:∀y∈names,y.2≠.cell)(hk:kk= .cell∨kk= .free)(h:(names.map (rlF env)).lookup x=some kk):(x,NameKind.free)∈names:=by
 rw[Zbp (Zh5 env)]at h
 obtain⟨k,h1,h2⟩:=Option.map_eq_some_iff.mp h
 have hm:=Ze9 h1
 have hc:k≠.cell:=hn _ hm
 by_cases hf:k= .free
 ·subst hf;exact hm
 ·exfalso
  have hb:(k==NameKind.free)=false:=by simpa using hf
  unfold rlF at h2
  simp only[hb,Bool.false_and,Bool.false_eq_true,if_false]at h2
  rcases hk with e|e
  ·exact hc (h2.trans e)
  ·exact hf (h2.trans e)
inductive BSrc where
 |own|cap (j:Nat)|acc
noncomputable def Zuz(σ:St)(acc:Addr):BSrc→Option V
 | .own=>none
 | .cap j=>(σ[j]?).join
 | .acc=>some (.ref acc)
noncomputable def bSt(src:List BSrc)(σ:St)(acc:Addr):St:=src.map (Zuz σ acc)
noncomputable abbrev Cx.block(X:Cx)(N':List Str)(scope:Scope)(C:Addr)(s₀:Shared)(H₀:Hp)(ex:List Addr):Cx:=
 {X with N:=N',env:=compEnvC scope (clOf X.env.cells scope.names []) C X.env,s₀:=s₀,H₀:=H₀,outer:=X.stack,stack:=X.stack,ex:=ex,fn:=fun _=>false,pn:=[],xe:=fun _ _=>False}
structure CompScope(X:Cx)(N':List Str)(scope:Scope)(src:List BSrc):Prop where
 kind:scope.kind= .function
 nocell:∀y∈scope.names,y.2≠.cell
 names:∀y∈scope.names,y.2= .local→scope.names.lookup y.1=some .local
 free:∀y∈scope.names,y.2= .free→X.env.kindOf y.1=some .cell∨X.env.kindOf y.1=some .free
 len:src.length=N'.length
 cap:∀(k j:Nat) (x:Str),src[k]? =some (.cap j)→N'[k]? =some x→X.N[j]? =some x∧(X.env.kindOf x=some .cell∨X.env.kindOf x=some .free)∧scope.names.lookup x=some .free
 acc:∀(k:Nat) (x:Str),src[k]? =some .acc→N'[k]? =some x→scope.names.lookup x=none
theorem Zcm{env:Env}{names:List (Str×NameKind)}{x:Str}(h:names.lookup x=none):(names.map (rlF env)).lookup x=none:=by
 rw[Zbp (Zh5 env),h];rfl
theorem Zcn{env:Env}{names:List (Str×NameKind)}{x:Str}(h:names.lookup x=some .free):(names.map (rlF env)).lookup x=some .cell∨(names.map (rlF env)).lookup x=some .free:=by
 rw[Zbp (Zh5 env),h]
 unfold rlF
 dsimp only[Option.map]
 split
 ·exact .inl rfl
 ·exact .inr rfl
section
variable{X:Cx}{N':List Str}{scope:Scope}{src:List BSrc}{pins:List (Addr×Obj)}{σ:St}{H:Hp}{s:Shared}{C acc:Addr}{fp:List Addr}
theorem Zh6{h1:Heap}{tk:Nat}(S:CompScope X N' scope src)(I:Inv X pins σ H s)(hC:C=s.heap.objs.size)(hf:∀b∈fp,FpOk X pins H b)(hfo:∀b∈fp,∃o,s.heap.get? b=some o)
  (hns:h1.Ns C fun _=>none) (hk:∀b o,s.heap.get? b=some o→h1.get? b=some o):
  Inv (X.block N' scope C s H fp) [] (bSt src σ acc) H {s with heap:=h1,toks:=tk}:=by
 have cellf:∀y∈scope.names,y.2= .free→∃c,X.env.cells.lookup y.1=some c:=fun y hy e=>I.ok.has y.1 (S.free y hy e)
 have sub:∀x c,(clOf X.env.cells scope.names []).lookup x=some c→X.env.cells.lookup x=some c:=fun x c e=>Zi6 cellf (fun h=>by simp at h) e
 have gt:∀b,b<s.heap.objs.size→b≠C:=fun b hb e=>by rw[e,hC]at hb;exact Nat.lt_irrefl _ hb
 refine⟨⟨I.ok.mod,S.kind,I.ok.glob,I.ok.blt,by rw[hC];exact Nat.le_refl _,fun x y c h1 h2=>I.ok.inj x y c (sub x c h1) (sub y c h2),fun x hx=>?_,fun x c h=>absurd h Bool.false_ne_true,I.ok.hd,I.ok.frames,.inl rfl,fun b hb=>?_,I.bs,
  Nat.le_trans I.ok.bsz I.sz,fun b o e hb=>?_,fun b hb hs=>?_,I.stack,I.stkFree⟩,rfl,I.bare,Un.kept hk,⟨_,hns,fun i x v e1 e2 e3=>?_⟩,fun x c e=>?_,?_,fun x c e=>I.freeC x c (sub x c e),fun p hp=>?_,I.hok.kept hk,?_⟩
 ·rcases hx with hx|hx
  ·exact Zd0 (Zbz S.nocell (.inl rfl) hx)
  ·exact Zd0 (Zbz S.nocell (.inr rfl) hx)
 ·obtain⟨f0,f1,f2,f3,f4,f5⟩:=hf b hb
  refine⟨?_,fun x c e=>f4 x c (sub x c e)⟩
  show b≠C
  obtain⟨o,ho⟩:=hfo b hb
  exact gt b (Heap.lt_size ho)
 ·obtain⟨f0,f1,f2,f3,f4,f5⟩:=hf b hb
  rcases f3 with z|z
  ·exact I.ok.noex b o e z
  ·exact absurd (Nat.lt_of_lt_of_le (Heap.lt_size e) (Nat.le_trans I.ok.bsz z)) (Nat.lt_irrefl _)
 ·obtain⟨f0,f1,f2,f3,f4,f5⟩:=hf b hb
  rcases List.mem_cons.mp (I.stkSub b hs)with z|z
  ·exact f1 z
  ·exact f2 z
 ·have hsrc:∃q,src[i]? =some q:=by
   cases q:src[i]? with
   |some q0=>exact⟨q0,rfl⟩
   |none=>
    have e2':(bSt src σ acc)[i]? =some (some v):=e2
    unfold bSt at e2'
    rw[List.getElem?_map,q]at e2';cases e2'
  obtain⟨q,hq⟩:=hsrc
  have e2':(bSt src σ acc)[i]? =some (some v):=e2
  unfold bSt at e2'
  rw[List.getElem?_map,hq]at e2'
  have e2'':Zuz σ acc q=some v:=Option.some.inj e2'
  cases q with
  |own=>cases e2''
  |acc=>
   exfalso
   have hno:=Zcm (env:=X.env) (S.acc i x hq e1)
   have hno':(relabel scope X.env).names.lookup x=none:=hno
   have e3':Vis (relabel scope X.env) x:=e3
   rcases e3' with z|z|z
   ·rw[hno']at z;cases z
   ·rw[hno']at z;cases z
   ·rw[hno']at z;cases z
  |cap j=>
   obtain⟨hj,hkind,hfr⟩:=S.cap i j x hq e1
   have hσ:σ[j]? =some (some v):=by
    have e4:(σ[j]?).join=some v:=e2''
    cases r:σ[j]? with
    |none=>rw[r]at e4;cases e4
    |some o=>rw[r]at e4;cases o with
     |none=>cases e4
     |some w'=>cases e4;rfl
   obtain⟨m,hn,hl⟩:=I.loc
   obtain⟨u,ru,l⟩:=hl j x v hj hσ (by rcases hkind with z|z;exact .inr (.inl z);exact .inr (.inr z))
   refine⟨u,ru,?_⟩
   rcases l with⟨z,_⟩|⟨_,c,hc,hcell⟩
   ·rcases hkind with y|y
    ·rw[y]at z;cases z
    ·rw[y]at z;cases z
   ·have e3':Vis (relabel scope X.env) x:=e3
    have fin:∀kk,kk= .cell∨kk= .free→(relabel scope X.env).names.lookup x=some kk→Look (X.block N' scope C s H fp).env h1 (fun _=>none) x u:=fun kk hkk hx=>by
     obtain⟨c',hc'⟩:=Zd0 (cells:=X.env.cells) (cs:=[]) (Zbz S.nocell hkk hx)
     have:=sub x c' hc'
     rw[hc]at this;cases this
     obtain⟨oc,hoc,hocd⟩:=hcell
     refine .inr ⟨?_,c,hc',oc,hk c oc hoc,hocd⟩
     rcases hkk with y|y
     ·subst y;exact .inl hx
     ·subst y;exact .inr hx
    rcases e3' with z|z|z
    ·exfalso
     have z':(relabel scope X.env).names.lookup x=some .local:=z
     rcases Zcn (env:=X.env) hfr with y|y
     ·have y':(relabel scope X.env).names.lookup x=some .cell:=y
      rw[z']at y';cases y'
     ·have y':(relabel scope X.env).names.lookup x=some .free:=y
      rw[z']at y';cases y'
    ·exact fin .cell (.inl rfl) z
    ·exact fin .free (.inr rfl) z
 ·obtain⟨v,oc,hoc,hocd⟩:=I.cell x c (sub x c e)
  exact⟨v,oc,hk c oc hoc,hocd⟩
 ·show H C=none
  rw[hC];exact I.hok.fresh (Nat.le_refl _)
 ·have hp':p∈([]:List (Addr×Obj)):=by simpa using hp
  exact nomatch hp'
 ·show(bSt src σ acc).length=N'.length
  unfold bSt
  rw[List.length_map];exact S.len
noncomputable def Zre(src:List BSrc)(wi:TI)(g:TG)(tt:TT)(te:TE):TE:=fun σ H Q=>wi σ H fun J H1=>∀acc,H1 acc=none→
 ∃W:Nat→Nat→St→Hp→Prop,(∃m,W 0 m (bSt src σ acc) (upd H1 acc (.lst [])))∧∀i m σ' H,W i m σ' H→(J.stop i H∧Q (.ref acc) H)∨
  (J.go i H∧∀x H',J.yld i H x H'→g x σ' H' fun σ2 H2=>tt σ2 H2 fun b H3=>if b=true then te σ2 H3 fun y H4=>Zd7 (.ref acc) [y] H4 fun _ H5=>∃m',m'<m∧W (i+1) m' σ2 H5 else∃m',m'<m∧W (i+1) m' σ2 H3)
noncomputable def PTs(X:Cx)(ifs:List Expr)(t:TT):Prop:=
 ∀(pins:List (Addr×Obj)) (s:Shared) (σ:St) (H:Hp) (Q:Bool→Hp→Prop),Inv X pins σ H s→t σ H Q→
  wpAny (model X.prog X.w) X.A (forIn ifs true fun c r=>if r=true then do let ok←isTrue c X.env (eval c X.env);pure (ForInStep.yield ok)else pure (ForInStep.yield r)) (TP X pins σ Q) X.xe s
noncomputable def Zxx:TT:=fun _ H Q=>Q true H
theorem Zrf:PTs X [] Zxx:=fun _ s σ H Q I h=>wpAny_tests_nil ⟨H,I,h⟩
theorem Zrg{c:Expr}{t:TT}(h:PT X c t):PTs X [c] t:=fun pins s σ H Q I q=>wpAny_tests_one (h pins s σ H Q I q)
theorem Zls{prog:Program}{w:World}{A:Around}{s:Shared}{elt target iter:Expr}{ifs:List Expr}{scope:Scope}{pos:Pos}{it acc:Value}{env:Env}{R:Result→Shared→Prop}(I:Nat→Shared→Prop)
  (turn:∀n s,I n s→wpAny (model prog w) A (pyNext it) (fun r s₁=>match r with
   |none=>R (.ok .next) s₁
   |some v=>wpAny (model prog w) A (letOwnedTupleGo target it v) (fun _ s₀=>wpAny (model prog w) A (assign target env v) (fun _ s₂=>
     wpAny (model prog w) A (forIn ifs true fun c r=>if r=true then do let ok←isTrue c env (eval c env);pure (ForInStep.yield ok)else pure (ForInStep.yield r)) (fun ok s₃=>if ok=true then wpAny (model prog w) A (eval elt env) (fun x s₄=>
      wpAny (model prog w) A (call (.builtin "list.append") [acc,x]) (fun _ s₅=>∃m,m<n∧I m s₅) (fun _ _=>False) s₄) (fun _ _=>False) s₃
      else∃m,m<n∧I m s₃) (fun _ _=>False) s₂)
     (fun _ _=>False) s₀) (fun _ _=>False) s₁) (fun _ _=>False) s)
  (n:Nat) (h:I n s):codeAny (model prog w) A (.compLoop (.ListComp elt [⟨target,iter,ifs,0⟩] scope pos) 0 it acc env) R s:=by
 refine codeAny_loop rfl I (fun n s hI=>?_) n h
 show wpAny _ A ((compTurn (.ListComp elt [⟨target,iter,ifs,0⟩] scope pos) 0 it acc env).onRaise (fun x=>do noteFrame x env;theTreesLotGoes x)) _ _ s
 refine wpAny_noted ?_
 rw[compTurn_list]
 refine wpAny_bind (wpAny_standAt (wpAny_bind (wpAny_mono (turn n s hI) (fun r s₁ h₁=>?_) fun _ _ f=>f.elim)))
 cases r with
 |none=>exact wpAny_pure h₁
 |some v=>
  refine wpAny_bind (wpAny_mono h₁ (fun _ s₀ h₀'=>?_) fun _ _ f=>f.elim)
  refine wpAny_bind (wpAny_mono h₀' (fun _ s₂ h₂=>?_) fun _ _ f=>f.elim)
  refine wpAny_bind (wpAny_mono h₂ (fun okb s₃ h₃=>?_) fun _ _ f=>f.elim)
  cases okb with
  |false=>exact wpAny_pure ⟨rfl,h₃⟩
  |true=>exact wpAny_bind (wpAny_bind (wpAny_mono h₃ (fun x s₄ h₄=>wpAny_bind (wpAny_mono h₄ (fun _ s₅ h₅=>wpAny_pure (wpAny_pure ⟨rfl,h₅⟩)) fun _ _ f=>f.elim)) fun _ _ f=>f.elim))
theorem Zfa{tg elt iter:Expr}{ifs:List Expr}{pos:Pos}{g:TG}{tt:TT}{te:TE}{it:Addr}{tn:Nat→Heap→Prop}{J:It}{Q:VK}{RR:Value→Addr→Result→Shared→Prop}{E:Value→Shared→Prop}
  (hc:X.calm=true) (S:CompScope X N' scope src)
  (hg:∀(C:Addr) (s₀:Shared) (H₀:Hp) (ex:List Addr),PG (X.block N' scope C s₀ H₀ ex) tg g)
  (ht:∀(C:Addr) (s₀:Shared) (H₀:Hp) (ex:List Addr),PTs (X.block N' scope C s₀ H₀ ex) ifs tt)
  (he:∀(C:Addr) (s₀:Shared) (H₀:Hp) (ex:List Addr),PE (X.block N' scope C s₀ H₀ ex) elt te)
  (I:Inv X pins σ H s) (T:Turn X.prog X.w X.K tg J fp it tn) (st:tn 0 s.heap) (hf:∀b∈fp,FpOk X pins H b)
  (q:∀acc,H acc=none→∃W:Nat→Nat→St→Hp→Prop,(∃m,W 0 m (bSt src σ acc) (upd H acc (.lst [])))∧∀i m σ' H,W i m σ' H→(J.stop i H∧Q (.ref acc) H)∨
   (J.go i H∧∀x H',J.yld i H x H'→g x σ' H' fun σ2 H2=>tt σ2 H2 fun b H3=>if b=true then te σ2 H3 fun y H4=>Zd7 (.ref acc) [y] H4 fun _ H5=>∃m',m'<m∧W (i+1) m' σ2 H5 else∃m',m'<m∧W (i+1) m' σ2 H3))
  (hRR:∀(acc C:Addr) (s':Shared) (H':Hp) (m:Str→Option Value),Inv X pins σ H' s'→Q (.ref acc) H'→s'.heap.Ns C m→H' C=none→C≠X.env.locals→X.s₀.heap.objs.size≤C→(∀x c,X.env.cells.lookup x=some c→c≠C)→(∀p∈X.pn++pins,p.1≠C)→
   RR (.ref acc) C (.ok .next) s'):
  wpAny (model X.prog X.w) X.A (newList []) (fun acc s₃=>wpAny (model X.prog X.w) X.A (newFunctionEnv scope X.env.globals (clOf X.env.cells scope.names []) [] X.env.qual none .none (some X.env)) (fun cenv s₄=>
   codeAny (model X.prog X.w) X.A (.compStart (.ListComp elt [⟨tg,iter,ifs,0⟩] scope pos) 0 (.ref it) acc {cenv with scope:=relabel scope X.env}) (RR acc cenv.locals) s₄) E s₃) E s:=by
 have hfo:∀b∈fp,∃o,s.heap.get? b=some o:=fun b hb=>let⟨o,e,_⟩:=T.obj 0 _ st b hb;⟨o,e⟩
 refine wpAny_newObj_type (wpAny_newFunctionEnv S.nocell (by intro y hy;simp at hy) (fun h₁ hns₁ hsb₁=>?_) S.kind)
 dsimp only at hns₁ hsb₁⊢
 have hacc:H s.heap.objs.size=none:=I.hok.fresh (Nat.le_refl _)
 have I3:Inv X pins σ (upd H s.heap.objs.size (.lst [])) {s with heap:=s.heap.push {cls:=.type "list",dict:=none,data:=.seq ([]:List Value).toArray}}:=I.lnew (t':=s.toks) (its:=[]) (ys:=[]) .nil (Nat.zero_le _)
 have hf3:∀b∈fp,FpOk X pins (upd H s.heap.objs.size (.lst [])) b:=fun b hb=>by
  obtain⟨f0,f⟩:=hf b hb
  obtain⟨o,ho⟩:=hfo b hb
  exact⟨by rw[Zs (Nat.ne_of_lt (Heap.lt_size ho))];exact f0,f⟩
 have hfo3:∀b∈fp,∃o,(s.heap.push {cls:=.type "list",dict:=none,data:=.seq ([]:List Value).toArray}).get? b=some o:=fun b hb=>let⟨o,e⟩:=hfo b hb;⟨o,Heap.get?_push_of_some _ e⟩
 obtain⟨W,⟨m0,w0⟩,turn⟩:=q _ hacc
 generalize hH2:s.heap.push {cls:=.type "list",dict:=none,data:=.seq ([]:List Value).toArray}=H2 at hns₁ hsb₁ I3 hfo3⊢
 have keep:∀b o,H2.get? b=some o→h₁.get? b=some o:=fun b o e=>hsb₁.extBut b o (Nat.ne_of_lt (Heap.lt_size e)) (Heap.get?_push_of_some _ e)
 have J0:=Zh6 (N':=N') (scope:=scope) (src:=src) (acc:=s.heap.objs.size) (tk:=s.toks+([]:List (Str×Value)).length) (C:=H2.objs.size) S I3 rfl hf3 hfo3 (show h₁.Ns H2.objs.size (fun _=>none)from hns₁) keep
 have st1:tn 0 h₁:=T.keep 0 s.heap h₁ st fun b hb o e=>keep b o (by rw[←hH2];exact Heap.get?_push_of_some _ e)
 have cne:H2.objs.size≠X.env.locals:=Nat.ne_of_gt I3.lt
 have csz:X.s₀.heap.objs.size≤H2.objs.size:=I3.sz
 have ccell:∀x c,X.env.cells.lookup x=some c→c≠H2.objs.size:=fun x c e z=>by
  obtain⟨v,oc,hoc,_⟩:=I3.cell x c e
  exact absurd (Heap.lt_size hoc) (by rw[z];exact Nat.lt_irrefl _)
 have cpin:∀p∈X.pn++pins,p.1≠H2.objs.size:=fun p hp z=>absurd (Heap.lt_size (I3.pin p hp).1) (by rw[z];exact Nat.lt_irrefl _)
 have loop:∀s₃:Shared,s₃={s with heap:=h₁,toks:=s.toks+([]:List (Str×Value)).length}→
   codeAny (model X.prog X.w) X.A (.compLoop (.ListComp elt [⟨tg,iter,ifs,0⟩] scope pos) 0 (.ref it) (.ref s.heap.objs.size) (compEnvC scope (clOf X.env.cells scope.names []) H2.objs.size X.env)) (RR (.ref s.heap.objs.size) H2.objs.size) s₃:=by
  rintro s₃ rfl
  refine Zls (fun n s'=>∃i σ' H',Inv (X.block N' scope H2.objs.size {s with heap:=H2} (upd H s.heap.objs.size (.lst [])) fp) [] σ' H' s'∧tn i s'.heap∧(∀b∈fp,H' b=none)∧W i n σ' H') ?_ m0 ⟨0,_,_,J0,st1,fun b hb=>(hf3 b hb).1,w0⟩
  rintro n s4 ⟨i,σ4,H4,J4,st4,fr4,w4⟩
  have fok:∀{H':Hp},(∀b∈fp,H' b=none)→∀b∈fp,FpOk (X.block N' scope H2.objs.size {s with heap:=H2} (upd H s.heap.objs.size (.lst [])) fp) [] H' b:=fun{H'} hn b hb=>by
   obtain⟨f0,f1,f2,f3,f4,f5⟩:=hf3 b hb
   refine⟨hn b hb,?_,fun z=>J4.ok.exfs b hb z,.inl hb,fun x c e=>(J4.ok.exf b hb).2 x c e,fun p hp=>?_⟩
   ·exact(J4.ok.exf b hb).1
   ·have hp':p∈([]:List (Addr×Obj)):=by simpa using hp
    exact nomatch hp'
  rcases turn i n σ4 H4 w4 with⟨stop,qn⟩|⟨go,step⟩
  ·refine thn (T.done (X.block N' scope H2.objs.size {s with heap:=H2} (upd H s.heap.objs.size (.lst [])) fp) rfl rfl rfl hc i [] s4 σ4 H4 _ J4 (fok fr4) st4 stop) fun r s5 ⟨hr,J5⟩=>?_
   subst hr
   obtain⟨m5,hn5,_⟩:=J5.loc
   have I5:Inv X pins σ H4 s5:=I3.call' (ch:=fp) J5.os J5.base J5.hok J5.bare fun b hb=>by
    obtain⟨f0,f1,f2,f3,f4,f5⟩:=hf3 b hb
    exact⟨f3,f1,f4,f5⟩
   exact hRR _ _ s5 H4 m5 I5 qn hn5 J5.free cne csz ccell cpin
  ·refine thn (T.item (X.block N' scope H2.objs.size {s with heap:=H2} (upd H s.heap.objs.size (.lst [])) fp) rfl rfl rfl hc i [] s4 σ4 H4 _ J4 (fok fr4) st4 go) fun r s5 ⟨u,hr,h5⟩=>?_
   subst hr
   refine thn h5 fun _ s6 zq9=>?_
   obtain⟨x,H6,J6,r6,y6,st6,fr6⟩:=zq9
   have J6':=J6.pinned (fok fr6) (T.obj _ _ st6)
   have again:∀{σ7:St} {H7:Hp} {s7:Shared},Inv (X.block N' scope H2.objs.size {s with heap:=H2} (upd H s.heap.objs.size (.lst [])) fp) ([]++Zgg fp s6.heap) σ7 H7 s7→(∃m',m'<n∧W (i+1) m' σ7 H7)→
     ∃m,m<n∧∃i σ' H',Inv (X.block N' scope H2.objs.size {s with heap:=H2} (upd H s.heap.objs.size (.lst [])) fp) [] σ' H' s7∧tn i s7.heap∧(∀b∈fp,H' b=none)∧W i m σ' H':=fun{σ7 H7 s7} J7 ⟨m',hm,w7⟩=>by
    refine⟨m',hm,i+1,σ7,H7,J7.unpinned,T.keep _ _ _ st6 fun b hb o e=>(J7.pin (b,o) (List.mem_append_right _ (List.mem_append_right _ (Zca hb e)))).1,fun b hb=>?_,w7⟩
    obtain⟨o,e,d⟩:=T.obj _ _ st6 b hb
    exact(J7.pin (b,o) (List.mem_append_right _ (List.mem_append_right _ (Zca hb e)))).2.1
   refine thn (hg _ _ _ _ _ s6 σ4 H6 x u _ J6' r6 (step x H6 y6)) fun _ s7 zq9=>?_
   obtain⟨σ7,H7,J7,q7⟩:=zq9
   refine thn (ht _ _ _ _ _ s7 σ7 H7 _ J7 q7) fun b s8 zq9=>?_
   obtain⟨H8,J8,q8⟩:=zq9
   cases b with
   |false=>rw[if_neg Bool.false_ne_true]at q8⊢;exact again J8 q8
   |true=>
    rw[if_pos rfl]at q8⊢
    refine thn (he _ _ _ _ _ s8 σ7 H8 _ J8 q8) fun y s9 zq9=>?_
    obtain⟨vy,H9,J9,r9,q9⟩:=zq9
    refine thn (Zgu _ s9 σ7 H9 (.ref s.heap.objs.size) [vy] (.ref s.heap.objs.size) [y] _ J9 rfl (.cons r9 .nil) q9) fun _ s10 ⟨_,H10,J10,_,q10⟩=>again J10 q10
 exact codeAny_compStart_list (loop _ rfl) (T.self X.A 0 _ _ _ st1 (loop _ rfl))
theorem Zrh{tg elt iter:Expr}{ifs:List Expr}{pos:Pos}{wi:TI}{g:TG}{tt:TT}{te:TE}(hc:X.calm=true)(S:CompScope X N' scope src)(hi:PI X tg iter wi)
  (hg:∀(C:Addr) (s₀:Shared) (H₀:Hp) (ex:List Addr),PG (X.block N' scope C s₀ H₀ ex) tg g)
  (ht:∀(C:Addr) (s₀:Shared) (H₀:Hp) (ex:List Addr),PTs (X.block N' scope C s₀ H₀ ex) ifs tt)
  (he:∀(C:Addr) (s₀:Shared) (H₀:Hp) (ex:List Addr),PE (X.block N' scope C s₀ H₀ ex) elt te)
  (hs:∀x,foldedSetIterable iter X.env x=pure x:=by intro _;rfl):PE X (.ListComp elt [⟨tg,iter,ifs,0⟩] scope pos) (Zre src wi g tt te):=by
 intro pins s σ H Q I h
 rw[eval_ListComp]
 refine wpAny_comprehension_free (use:=none) rfl hs (Zcu fun y hy e=>I.ok.has y.1 (S.free y hy e)) S.kind S.names (thn (hi pins s σ H _ I h) fun v s1 h1=>thn h1 fun itv s2 h2=>?_)
 obtain⟨it,fp,tn,J,H2,e,I2,T,st2,f2,q⟩:=h2
 subst e
 refine Zfa hc S hg ht he I2 T st2 f2 q fun acc C s' H' m I' q' hn hC c1 c2 c3 c4=>⟨m,hn,fun h' hs'=>?_⟩
 exact⟨.ref acc,H',I'.turned (t':=s'.toks) (fun b o hb e=>(hs'.2 b hb).trans e) hC c1 (.inr c2) c3 c4,rfl,q'⟩
theorem Zkg{tg elt iter:Expr}{ifs:List Expr}{pos spos py:Pos}{wi:TI}{g:TG}{tt:TT}{te:TE}{i:Nat}{y:Str}(hc:X.calm=true)(S:CompScope X N' scope src)(hi:PI X tg iter wi)
  (hg:∀(C:Addr) (s₀:Shared) (H₀:Hp) (ex:List Addr),PG (X.block N' scope C s₀ H₀ ex) tg g)
  (ht:∀(C:Addr) (s₀:Shared) (H₀:Hp) (ex:List Addr),PTs (X.block N' scope C s₀ H₀ ex) ifs tt)
  (he:∀(C:Addr) (s₀:Shared) (H₀:Hp) (ex:List Addr),PE (X.block N' scope C s₀ H₀ ex) elt te)
  (hN:X.N.Nodup) (hiy:X.N[i]? =some y) (hx:X.env.scope.names.lookup y=some .local)
  (hsw:swapsWith (.ListComp elt [⟨tg,iter,ifs,0⟩] scope pos) (some (.Name y py)) spos.line X.env=pure true)
  (hs:∀x,foldedSetIterable iter X.env x=pure x:=by intro _;rfl):PS X (.Assign [.Name y py] (.ListComp elt [⟨tg,iter,ifs,0⟩] scope pos) spos) (tAsg (Zre src wi g tt te) (Zj9 i)):=by
 intro pins s σ H D I h
 rw[exec_Assign_Name_used _ _ _ _ hsw]
 refine wpAny_bind (wpAny_standAt (wpAny_bind ?_))
 show wpAny _ X.A (do let _←comprehension (.ListComp elt [⟨tg,iter,ifs,0⟩] scope pos) scope X.env _ (newList []) false (eval iter X.env) (some (assign (.Name y py) X.env))) _ _ s
 refine wpAny_bind (wpAny_mono (wpAny_comprehension_free (use:=some (assign (.Name y py) X.env)) (Q:=fun _ s'=>SP X pins D .next s') rfl hs (Zcu fun y hy e=>I.ok.has y.1 (S.free y hy e)) S.kind S.names
  (thn (hi pins s σ H _ I h) fun v s1 h1=>thn h1 fun itv s2 h2=>?_)) (fun _ s' hq=>wpAny_pure (wpAny_pure hq)) fun _ _ e=>e)
 obtain⟨it,fp,tn,J,H2,e,I2,T,st2,f2,q⟩:=h2
 subst e
 refine Zfa (Q:=fun x H1=>Zj9 i x σ H1 D.nx) hc S hg ht he I2 T st2 f2 q fun acc C s' H' m I' q' hn hC c1 c2 c3 c4=>?_
 refine wpAny_assign_Name (Zgf I' hN hiy (.inl hx) (v:=.ref acc) (u:=.ref acc) rfl (fun s'' I'' ⟨a,hsb,ha⟩=>?_) (.inr hx))
 have hCa:C≠a:=by
  rcases ha with z|z
  ·rw[z];exact c1
  ·exact Ne.symm (c3 _ _ z)
 refine⟨m,hn.sameBut hsb hCa,fun h' hs'=>?_⟩
 exact⟨_,H',I''.turned (t':=s''.toks) (fun b o hb e=>(hs'.2 b hb).trans e) hC c1 (.inr c2) c3 c4,q'⟩
end
end L2
namespace L2
open PySem PySem.Spec PyProof.Rows
noncomputable def Zxy(h:Heap)(xs:List Addr):Heap:={objs:=(Array.range h.objs.size).map fun a=>if a∈xs then{cls:=.none,data:=.freed}else(h.objs[a]?).getD {cls:=.none,data:=.freed}}
structure Raised(h:Heap)(e:Addr)(cls:Value)(dx tb:Option Addr):Prop where
 obj:∃oe vs,h.get? e=some oe∧oe.cls=cls∧oe.dict=dx∧oe.data= .fields vs∧vs[1]? =some (match tb with|none=>.none|some T=>.ref T)
 tr:∀T,tb=some T→T≠e∧∃oT ts fl,h.get? T=some oT∧oT.data= .fields ts∧ts[3]? =some fl
noncomputable def tbl':Option Addr→List Addr
 |none=>[]
 |some T=>[T]
structure Noted(l:List Addr)(h h':Heap)(e:Addr)(cls:Value)(dx tb:Option Addr)(T:Addr):Prop where
 keep:∀b o,b≠e→b∉tbl' tb→b∉l→h.get? b=some o→h'.get? b=some o
 slot:∀b o,b∈l→h.get? b=some o→∃sl,h'.get? b=some {o with slots:=sl}
 new:h.get? T=none∨some T=tb
 r:Raised h' e cls dx (some T)
section
variable{M:Model}{A:Around}{E:Value→Shared→Prop}{s:Shared}{base:Heap}{env:Env}{outer:List Env}{L e:Addr}{cls:Value}{dx tb:Option Addr}{Q:Unit→Shared→Prop}
end
end L2
namespace L2
open PySem PySem.Spec PyProof.Rows
noncomputable def CX1(P:Program)(w:World):CXT:=fun outer H s E e s'=>∃(a:Addr) (cls:Value) (dx:Option Addr) (T:Addr) (H':Hp),e= .ref a∧s'.os=s.os∧AllBare s'.gens∧Un (frs outer) [] H H' s.heap s'.heap∧HOk P w H' s'.heap∧
 Raised s'.heap a cls dx (some T)∧s.heap.get? a=none∧s.heap.get? T=none∧H' a=none∧H' T=none∧E cls dx H'
noncomputable def Z0c(X:Cx)(EX:XK):Prop:=∀(pins:List (Addr×Obj)) (σ:St) (H:Hp) (s:Shared) (e:Addr) (cls:Value) (dx tb:Option Addr),Inv X pins σ H s→Raised s.heap e cls dx tb→X.s₀.heap.get? e=none→H e=none→
 (∀T,tb=some T→X.s₀.heap.get? T=none∧H T=none)→EX cls dx H→X.xe (.ref e) s
end L2
namespace L2
open PySem PySem.Spec PyProof.Rows
abbrev VEB:List Value:=[.type "ValueError",.type "Exception",.type "BaseException",.type "object"]
noncomputable def Z0d(EX:XK)(C:Addr)(t:TA):TS:=fun _ σ H=>t σ H fun vs H1=>vs.length≤sizeLine∧EX (.ref C) none H1
end L2
namespace L2
open PySem PySem.Spec PyProof.Rows
noncomputable abbrev EXT:=Value→Option Addr→St→Hp→Prop
noncomputable def Zxz(X:Cx)(EX:EXT):Prop:=∀(pins:List (Addr×Obj)) (σ:St) (H:Hp) (s:Shared) (e:Addr) (cls:Value) (dx:Option Addr) (T:Addr),Inv X pins σ H s→Raised s.heap e cls dx (some T)→X.s₀.heap.get? e=none→H e=none→
 X.s₀.heap.get? T=none→H T=none→(∀p∈X.pn++pins,p.1≠e∧p.1≠T)→(e≠X.env.locals∧T≠X.env.locals)→(∀x c,X.env.cells.lookup x=some c→c≠e∧c≠T)→EX cls dx σ H→X.xe (.ref e) s
noncomputable def Z1x(X:Cx)(EX:EXT):Prop:=∀(pins:List (Addr×Obj)) (σ:St) (H:Hp) (s:Shared) (e:Value) (s':Shared),Inv X pins σ H s→CX1 X.prog X.w X.stack H s (fun cls od H'=>EX cls od σ H') e s'→X.xe e s'
noncomputable def Z0e(sp:Sp)(EX:EXT)(t:TA):TE:=fun σ H Q=>t σ H fun vs H1=>sp vs H1 Q fun cls od H'=>EX cls od σ H'
end L2
namespace L2
open PySem PySem.Spec PyProof.Rows
structure Air(X:Cx)(pins:List (Addr×Obj))(H:Hp)(s:Shared)(e:Addr)(cls:Value)(dx:Option Addr)(T:Addr):Prop where
 r:Raised s.heap e cls dx (some T)
 e0:X.s₀.heap.get? e=none
 eH:H e=none
 t0:X.s₀.heap.get? T=none
 tH:H T=none
 pe:∀p∈X.pn++pins,p.1≠e∧p.1≠T
 le:e≠X.env.locals∧T≠X.env.locals
 ce:∀x c,X.env.cells.lookup x=some c→c≠e∧c≠T
section
variable{X:Cx}{pins:List (Addr×Obj)}{σ:St}{H:Hp}{s:Shared}{e T:Addr}{cls:Value}{dx:Option Addr}
end
noncomputable abbrev Cx.inTry(X:Cx)(pn:List (Addr×Obj))(xe:Value→Shared→Prop):Cx:={X with pn:=pn,xe:=xe}
noncomputable abbrev Cx.inSuite(X:Cx)(a:Addr):Cx:={X with A:=X.A.mark (some (.ref a)),calm:=false,xe:=fun _ _=>False}
section
variable{X:Cx}{pins:List (Addr×Obj)}{σ:St}{H:Hp}{s:Shared}{e T:Addr}{cls:Value}{dx:Option Addr}{xe:Value→Shared→Prop}
noncomputable def Zkh(a C:Addr)(dx:Option Addr):Heap→Prop:=fun h=>∃o,h.get? a=some o∧o.cls= .ref C∧o.dict=dx∧PySem.W.notCls o=true
end
end L2
namespace L2
open PySem PySem.Spec PyProof.Rows
set_option genInjectivity false in
structure Hd where
 x:Str
 np:Pos
 nm:Option (Str×Nat)
 b0:Stmt
 suite:List Stmt
 pos:Pos
 B:Addr
 t:TS
noncomputable def Hd.ast(h:Hd):ExceptHandler:=.ExceptHandler (some (.Name h.x h.np)) (h.nm.map (·.1)) (h.b0::h.suite) h.pos
noncomputable def Ends.but(D:Ends)(i:Nat):Ends:={nx:=fun σ H=>D.nx (σ.set i none) H,bk:=fun σ H=>D.bk (σ.set i none) H,ct:=fun σ H=>D.ct (σ.set i none) H,rt:=D.rt}
noncomputable def Hd.run(h:Hd)(C:Addr)(dx:Option Addr)(D:Ends)(σ:St)(H:Hp):Prop:=match h.nm with
 |none=>h.t D σ H
 |some (_,i)=>∀a,H a=none→h.t (D.but i) (σ.set i (some (.ref a))) (upd H a (.ext (Zkh a C dx)))
noncomputable def Zu0(K:PySem.W.Frag)(C:Addr):List Hd→Option Hd
 | []=>none
 |h::r=>match PySem.W.mroIn K C (.ref h.B)with
  |some true=>some h
  |some false=>Zu0 K C r
  |none=>none
set_option genInjectivity false in
structure Hd.Ok(X:Cx)(h:Hd):Prop where
 gl:Gl X h.x
 mg:X.mg h.x=some (.ref h.B)
 ty:PySem.W.typeIn X.K (.ref h.B)=some (.type "type")
 cl:PySem.W.isClsIn X.K h.B=true
 bs:PySem.W.mroIn X.K h.B (.type "BaseException")=some true
 db:(h.x==("__debug__":Str))=false
 nm:∀n i,h.nm=some (n,i)→X.N.Nodup∧X.N[i]? =some n∧Loc X.env.scope n∧X.env.kindOf n=some .local∧X.env.scope.names.lookup n=some .local
 su:∀a,PSs (X.inSuite a) (h.b0::h.suite) h.t
section
variable{X:Cx}{pins:List (Addr×Obj)}{σ:St}{H:Hp}{s:Shared}{e T C:Addr}{dx:Option Addr}{D:Ends}
noncomputable def tTry(K:PySem.W.Frag)(tb:EXT→TS)(hs:List Hd):TS:=fun D σ H=>tb (fun cls dx σ' H'=>∃C h,cls= .ref C∧Zu0 K C hs=some h∧h.run C dx D σ' H') D σ H
end
end L2
namespace L2
open PySem PySem.Spec PySem.Calls PyProof.Rows Builtin.ObjectAttr Builtin.Getset_descriptor
structure ExcKit(K:PySem.W.Frag)(C:Addr):Prop where
 cl:PySem.W.isClsIn K C=true
 ga:PySem.W.findIn K (.ref C) "__getattribute__"=some (some (.builtin "BaseException.__getattribute__"))
 gt:PySem.W.findIn K (.ref C) "__getattr__"=some none
 ca:PySem.W.findIn K (.ref C) "__class__"=some (some (.builtin "object.__class__"))
 gs:PySem.W.specialIn K (.builtin "object.__class__") "__get__"=some (some (.builtin "getset_descriptor.__get__"))
 tk:PySem.W.takesIn K (.builtin "object.__class__")=some true
 ob:PySem.W.mroIn K C (.type "object")=some true
 be:PySem.W.mroIn K C (.type "BaseException")=some true
section
variable{prog:Program}{w:World}{A:Around}{E:Value→Shared→Prop}{s:Shared}{K:PySem.W.Frag}{x C:Addr}{dx:Option Addr}
end
section
variable{X:Cx}
noncomputable def rIsX(K:PySem.W.Frag)(c:V)(cv:Value):List V→Hp→VK→Prop:=fun xs H Q=>∃a C dx b,xs=[.ref a,c]∧H a=some (.ext (Zkh a C dx))∧ExcKit K C∧PySem.W.kitOne K (.ref C) cv=some b∧Q (.bl b) H
noncomputable def Z1y(K:PySem.W.Frag)(Bs:List Addr):List V→Hp→VK→Prop:=fun xs H Q=>∃a C dx p b,xs=[.ref a,.ref p]∧H a=some (.ext (Zkh a C dx))∧ExcKit K C∧H p=some (.tup (Bs.map V.ref))∧PySem.W.kitAny K (.ref C) (Bs.map Value.ref)=some b∧Q (.bl b) H
end
end L2
namespace L2
open PySem PySem.Spec PyProof.Rows
section
variable{X:Cx}{pins:List (Addr×Obj)}{σ:St}{H:Hp}{s s':Shared}
end
noncomputable abbrev Cx.blockX(X:Cx)(N':List Str)(scope:Scope)(C:Addr)(s₀:Shared)(H₀:Hp)(ex:List Addr)(xe:Value→Shared→Prop):Cx:=
 {X with N:=N',env:=compEnvC scope (clOf X.env.cells scope.names []) C X.env,s₀:=s₀,H₀:=H₀,outer:=X.stack,stack:=X.stack,ex:=ex,fn:=fun _=>false,pn:=[],xe:=xe}
section
variable{X:Cx}{N':List Str}{scope:Scope}{src:List BSrc}{pins:List (Addr×Obj)}{σ:St}{H:Hp}{s:Shared}{C acc:Addr}{fp:List Addr}
noncomputable def Z0f(src:List BSrc)(wi:TI)(g:TG)(tt:TT)(te:EXT→TE)(EX:EXT):TE:=fun σ H Q=>wi σ H fun J H1=>∀acc,H1 acc=none→
 ∃W:Nat→Nat→St→Hp→Prop,(∃m,W 0 m (bSt src σ acc) (upd H1 acc (.lst [])))∧∀i m σ' H,W i m σ' H→(J.stop i H∧Q (.ref acc) H)∨
  (J.go i H∧∀x H',J.yld i H x H'→g x σ' H' fun σ2 H2=>tt σ2 H2 fun b H3=>if b=true then te (fun cls od _ H'=>EX cls od σ H') σ2 H3 fun y H4=>Zd7 (.ref acc) [y] H4 fun _ H5=>∃m',m'<m∧W (i+1) m' σ2 H5 else∃m',m'<m∧W (i+1) m' σ2 H3)
end
end L2
namespace PySem
open Sem (wp)
section
variable{prog:Program}{w:World}{A:Around}{E:Value→Shared→Prop}{h:Heap}{g:Array GenState}{d:Drawn}{t:Nat}{os:OsState}
variable{nm q:Str}{C N fI:Addr}{oI:Obj}{bs bm bmB bmN:List Value}{hdct:Bool}{sn:List Str}{sub:List Value}{ab:Bool}{col:Option Bool}{dd:Option Addr}{k0 k1 k2 k3 k5:Option Value}{B Bn newId nid initId inN:String}{mN:Str→Option Value}{rest:List Value}
end
section
variable{prog:Program}{w:World}{A:Around}{E:Value→Shared→Prop}{s:Shared}{env:Env}
variable{nm q:Str}{C N fI:Addr}{bs bm bmB bmN:List Value}{hdct:Bool}{sn:List Str}{sub:List Value}{ab:Bool}{col:Option Bool}{dd:Option Addr}{k0 k1 k2 k3 k5:Option Value}{B Bn newId nid initId inN:String}{mN:Str→Option Value}
end
end PySem
namespace L2
open PySem PySem.Spec PySem.Calls PyProof.Rows Builtin.ObjectAttr
noncomputable def Zpv:List Value→Bool
 | .ref _::r=>Zpv r
 |l=>l==VEB
structure ExcSet(K:PySem.W.Frag)(C:Addr)(name:Str):Prop where
 sa:PySem.W.findIn K (.ref C) "__setattr__"=some (some (.builtin "object.__setattr__"))
 ob:PySem.W.mroIn K C (.type "object")=some true
 na:PySem.W.findIn K (.ref C) name=some none
 mr:((PySem.W.clsIn K C).any fun cd=>Zpv cd.mro&&cd.hasDict)=true
noncomputable def Zdo(a C:Addr)(dx:Option Addr):Heap→Prop:=fun h=>∃o t,h.get? a=some o∧o.cls= .ref C∧o.dict=dx∧o.data= .fields #[.ref t,.none,.none,.none,.bool false,.none]
section
variable{prog:Program}{w:World}{A:Around}{E:Value→Shared→Prop}{s:Shared}{K:PySem.W.Frag}{x C:Addr}{name:Str}{v:Value}
end
end L2
namespace L2
open PySem PySem.Spec PyProof.Rows
noncomputable def Z0g(K:PySem.W.Frag)(C f:Addr):Bool:=match K.lookup C with
 |some ⟨.type "type",_,.cls cd,sl⟩=>(match cd.mro,sl.toList with
  | .ref B::r,[_,_,_,_,some (.builtin i),_]=>B==C&&i=="ValueError.__new__" && !cd.hasDel&&PySem.W.tailIn K VEB r&&PySem.W.nsOkIn K cd.ns&&PySem.W.nsIn K cd.ns "__init__"==some (some (.ref f))
  |_,_=>false)
 |_=>false
noncomputable def Zx0(C f:Addr)(h:Heap):Prop:=∃(bm:List Value) (N:Addr) (nm q:Str) (bs:List Value) (hdct:Bool) (sn:List Str) (sub:List Value) (ab:Bool) (col:Option Bool) (dd:Option Addr) (k0 k1 k2 k3 k5:Option Value) (mN:Str→Option Value),
 h.get? C=some (excClassObj nm q C N bs bm hdct sn sub ab col dd k0 k1 k2 k3 k5 "ValueError.__new__")∧h.Ns N mN∧mN "__init__"=some (.ref f)∧OwnTail h VEB bm
noncomputable def drop(H:Hp)(e:Addr):Hp:=fun b=>if b=e then none else H b
section
variable{X:Cx}{pins:List (Addr×Obj)}{σ:St}{H:Hp}{s:Shared}{e C:Addr}
end
structure ExcGet(K:PySem.W.Frag)(C:Addr)(f:Str):Prop where
 kit:ExcKit K C
 na:PySem.W.findIn K (.ref C) f=some none
 mr:((PySem.W.clsIn K C).any fun cd=>cd.hasDict)=true
noncomputable def Z0h(K:PySem.W.Frag)(ta:TE)(f:Str):TE:=fun σ H Q=>ta σ H fun x H1=>∃a C dx fs v,x= .ref a∧H1 a=some (.ext (Zkh a C (some dx)))∧H1 dx=some (.xd fs)∧ExcGet K C f∧fs.lookup f=some v∧Q v H1
section
variable{X:Cx}{e o value:Expr}{f:Str}{pos pos':Pos}{ta tv:TE}
noncomputable def Z0i(K:PySem.W.Frag)(ta tv:TE)(f:Str):TS:=fun D σ H=>tv σ H fun y H1=>ta σ H1 fun x H2=>∃a C,x= .ref a∧H2 a=some (.ext (Zdo a C none))∧ExcSet K C f∧
 ∀dx,H2 dx=none→D.nx σ (upd (upd H2 dx (.xd [(f,y)])) a (.ext (Zdo a C (some dx))))
end
noncomputable def Zx1(EX:XK)(C:Addr)(sp:Sp)(t:TA):TS:=fun _ σ H=>t σ H fun vs H1=>vs.length≤sizeLine∧∀e,H1 e=none→sp (.ref e::vs) (upd H1 e (.ext (Zdo e C none))) (fun v H2=>v= .non∧∃dx,H2 e=some (.ext (Zdo e C dx))∧EX (.ref C) dx (drop H2 e)) E0
end L2
namespace DL
open PySem L2
variable{K:PySem.W.Frag}
inductive D where
 |non|bl (b:Bool)|int (i:Int)|str (x:Str)
 |tup (xs:List D)|lst (xs:List D)
 |dK (ks:List Key) (vs:List D)|dT (ks:List (List Key)) (vs:List D)
 |exc (c:Str) (ks:List Str) (vs:List D)
noncomputable def Zh7(K:PySem.W.Frag)(c:Str)(C:Addr):Prop:=PySem.W.nsIn K mainGlobals c=some (some (.ref C))
noncomputable def KB(F:Hp)(kvs:List (List Key×V))(bs:List Addr):Prop:=Paired (fun(p:List Key×V) (b:Addr)=>F b=some (.tup (p.1.map kV))) kvs bs
mutual
inductive Rep(K:PySem.W.Frag)(F:Hp):D→V→Prop where
 |non:Rep K F .non .non
 |bl (b:Bool):Rep K F (.bl b) (.bl b)
 |int (i:Int):Rep K F (.int i) (.int i)
 |str (x:Str):Rep K F (.str x) (.str x)
 |tup {a:Addr} {xs:List D} {vs:List V} (h:F a=some (.tup vs)) (r:Reps K F xs vs):Rep K F (.tup xs) (.ref a)
 |lst {a:Addr} {xs:List D} {vs:List V} (h:SqL K F a vs) (r:Reps K F xs vs):Rep K F (.lst xs) (.ref a)
 |dK {a:Addr} {ks:List Key} {ds:List D} {kvs:List (Key×V)} {ep:Nat} (h:F a=some (.dK kvs ep)) (e:kvs.map (·.1)=ks) (r:Reps K F ds (kvs.map (·.2))):Rep K F (.dK ks ds) (.ref a)
 |dT {a:Addr} {ks:List (List Key)} {ds:List D} {kvs:List (List Key×V)} {ep:Nat} {bs:List Addr} (h:F a=some (.dT kvs ep bs)) (kb:KB F kvs bs) (e:kvs.map (·.1)=ks) (r:Reps K F ds (kvs.map (·.2))):Rep K F (.dT ks ds) (.ref a)
 |exc {a C:Addr} {c:Str} (cl:Zh7 K c C) (h:F a=some (.ext (Zkh a C none))):Rep K F (.exc c [] []) (.ref a)
 |exd {a C dx:Addr} {c:Str} {ks:List Str} {ds:List D} {fs:List (Str×V)} (cl:Zh7 K c C) (h:F a=some (.ext (Zkh a C (some dx)))) (hx:F dx=some (.xd fs)) (e:fs.map (·.1)=ks) (r:Reps K F ds (fs.map (·.2))):Rep K F (.exc c ks ds) (.ref a)
inductive Reps(K:PySem.W.Frag)(F:Hp):List D→List V→Prop where
 |nil:Reps K F [] []
 |cons {d:D} {v:V} {ds:List D} {vs:List V} (h:Rep K F d v) (t:Reps K F ds vs):Reps K F (d::ds) (v::vs)
end
theorem KB.mono{F F':Hp}(s:Same F F'){kvs:List (List Key×V)}{bs:List Addr}(h:KB F kvs bs):KB F' kvs bs:=Paired.mapP h fun _ _ z=>s _ _ z
theorem Zpw{F F':Hp}(s:Same F F'){a:Addr}{u:HO}(h:Rd F a u):Rd F' a u:=by
 rcases h with h|⟨o,h⟩
 ·exact .inl (s _ _ h)
 ·exact .inr ⟨o,s _ _ h⟩
theorem Zav{F F':Hp}(s:Same F F'){a:Addr}{xs:List V}(h:SqL K F a xs):SqL K F' a xs:=by
 rcases h with h|h
 ·exact .inl (Zpw s h)
 ·exact .inr h
theorem Zaw{F F':Hp}(s:Same F F'){a:Addr}{xs:List V}(h:SqT K F a xs):SqT K F' a xs:=by
 rcases h with h|h
 ·exact .inl (Zpw s h)
 ·exact .inr h
theorem Zez{F:Hp}{a:Addr}{vs:List V}(h:F a=some (.tup vs)):SqT K F a vs:=.inl (.inl h)
mutual
theorem Rep.mono{F F':Hp}(s:Same F F'):∀{d:D} {v:V},Rep K F d v→Rep K F' d v
 |_,_,.non=>.non
 |_,_,.bl b=>.bl b
 |_,_,.int i=>.int i
 |_,_,.str x=>.str x
 |_,_,.tup h r=>.tup (s _ _ h) (Reps.mono s r)
 |_,_,.lst h r=>.lst (Zav s h) (Reps.mono s r)
 |_,_,.dK h e r=>.dK (s _ _ h) e (Reps.mono s r)
 |_,_,.dT h kb e r=>.dT (s _ _ h) (kb.mono s) e (Reps.mono s r)
 |_,_,.exc cl h=>.exc cl (s _ _ h)
 |_,_,.exd cl h hx e r=>.exd cl (s _ _ h) (s _ _ hx) e (Reps.mono s r)
theorem Reps.mono{F F':Hp}(s:Same F F'):∀{ds:List D} {vs:List V},Reps K F ds vs→Reps K F' ds vs
 |_,_,.nil=>.nil
 |_,_,.cons h t=>.cons (Rep.mono s h) (Reps.mono s t)
end
theorem Reps.length{F:Hp}{ds:List D}:∀{vs:List V},Reps K F ds vs→ds.length=vs.length:=by
 induction ds with
 |nil=>intro vs h;cases h;rfl
 |cons d ds ih=>
  intro vs h
  cases h with
  |cons _ t=>rw[List.length_cons,List.length_cons,ih t]
theorem Reps.append{F:Hp}{ds es:List D}{vs us:List V}(h:Reps K F ds vs)(q:Reps K F es us):Reps K F (ds++es) (vs++us):=by
 induction ds generalizing vs with
 |nil=>cases h;exact q
 |cons d ds ih=>
  cases h with
  |cons h t=>exact .cons h (ih t)
theorem Reps.snoc{F:Hp}{ds:List D}{vs:List V}{d:D}{v:V}(r:Reps K F ds vs)(h:Rep K F d v):Reps K F (ds++[d]) (vs++[v]):=r.append (.cons h .nil)
theorem Reps.get{F:Hp}:∀{ds:List D} {vs:List V} {i:Nat} {d:D},Reps K F ds vs→ds[i]? =some d→∃v,vs[i]? =some v∧Rep K F d v
 |_,_,_,_,.nil,e=>by simp at e
 |_,_,0,_,.cons h t,e=>by simp at e;subst e;exact⟨_,rfl,h⟩
 |_,_,i+1,d,.cons h t,e=>by
  obtain⟨v,h1,h2⟩:=Reps.get (i:=i) (d:=d) t (by simpa using e)
  exact⟨v,by simpa using h1,h2⟩
theorem Reps.take{F:Hp}:∀{ds:List D} {vs:List V} (n:Nat),Reps K F ds vs→Reps K F (ds.take n) (vs.take n)
 |_,_,0,_=>.nil
 |_,_,_+1,.nil=>.nil
 |_,_,n+1,.cons h t=>.cons h (t.take n)
theorem Reps.drop{F:Hp}:∀{ds:List D} {vs:List V} (n:Nat),Reps K F ds vs→Reps K F (ds.drop n) (vs.drop n)
 |_,_,0,r=>r
 |_,_,_+1,.nil=>.nil
 |_,_,n+1,.cons h t=>t.drop n
inductive SV where
 |fz (d:D)|ol (xs:List D)|oK (ks:List Key) (vs:List D)|oT (ks:List (List Key)) (vs:List D)|oN (ks:List Key) (xss:List (List D))|oL (pin:Option Addr) (xss:List (List D))|oQ (pin:Addr) (ks:List Key) (vs:List D)
@[simp] noncomputable def SV.toD:SV→D
 | .fz d=>d
 | .ol xs=>.lst xs
 | .oK ks vs=>.dK ks vs
 | .oT ks vs=>.dT ks vs
 | .oN ks xss=>.dK ks (xss.map D.lst)
 | .oL _ xss=>.lst (xss.map D.lst)
 | .oQ _ ks vs=>.dK ks vs
noncomputable abbrev Zl:=List (Addr×HO)
inductive Kids(K:PySem.W.Frag)(F:Hp):List (List D)→List V→Zl→Prop where
 |nil:Kids K F [] [] []
 |cons {xs:List D} {xss:List (List D)} {b:Addr} {vs:List V} {ws:List V} {ns:Zl} (r:Reps K F xs vs) (t:Kids K F xss ws ns):Kids K F (xs::xss) (.ref b::ws) ((b,.lst vs)::ns)
inductive Shape(K:PySem.W.Frag)(F:Hp):SV→V→Zl→Prop where
 |fz {d:D} {v:V} (h:Rep K F d v):Shape K F (.fz d) v []
 |ol {a:Addr} {xs:List D} {vs:List V} (r:Reps K F xs vs):Shape K F (.ol xs) (.ref a) [(a,.lst vs)]
 |oK {a:Addr} {ks:List Key} {ds:List D} {kvs:List (Key×V)} {ep:Nat} (e:kvs.map (·.1)=ks) (r:Reps K F ds (kvs.map (·.2))):Shape K F (.oK ks ds) (.ref a) [(a,.dK kvs ep)]
 |oT {a:Addr} {ks:List (List Key)} {ds:List D} {kvs:List (List Key×V)} {ep:Nat} {bs:List Addr} (kb:KB F kvs bs) (e:kvs.map (·.1)=ks) (r:Reps K F ds (kvs.map (·.2))):Shape K F (.oT ks ds) (.ref a) [(a,.dT kvs ep bs)]
 |oN {a:Addr} {ks:List Key} {xss:List (List D)} {kvs:List (Key×V)} {ns:Zl} {ep:Nat} (e:kvs.map (·.1)=ks) (r:Kids K F xss (kvs.map (·.2)) ns):Shape K F (.oN ks xss) (.ref a) ((a,.dK kvs ep)::ns)
 |oL {pin:Option Addr} {a:Addr} {xss:List (List D)} {ws:List V} {ns:Zl} (hp:∀b,pin=some b→b=a) (r:Kids K F xss ws ns):Shape K F (.oL pin xss) (.ref a) ((a,.lst ws)::ns)
 |oQ {a:Addr} {ks:List Key} {ds:List D} {kvs:List (Key×V)} {ep:Nat} (e:kvs.map (·.1)=ks) (r:Reps K F ds (kvs.map (·.2))):Shape K F (.oQ a ks ds) (.ref a) [(a,.dK kvs ep)]
theorem Kids.mono{F F':Hp}(s:Same F F'){xss:List (List D)}{ws:List V}{ns:Zl}(h:Kids K F xss ws ns):Kids K F' xss ws ns:=by
 induction h with
 |nil=>exact .nil
 |cons r _ ih=>exact .cons (r.mono s) ih
theorem Shape.mono{F F':Hp}(s:Same F F'){sv:SV}{v:V}{ns:Zl}(h:Shape K F sv v ns):Shape K F' sv v ns:=by
 cases h with
 |fz h=>exact .fz (h.mono s)
 |ol r=>exact .ol (r.mono s)
 |oK e r=>exact .oK e (r.mono s)
 |oT kb e r=>exact .oT (kb.mono s) e (r.mono s)
 |oN e r=>exact .oN e (r.mono s)
 |oL hp r=>exact .oL hp (r.mono s)
 |oQ e r=>exact .oQ e (r.mono s)
noncomputable def addL(F:Hp):Zl→Hp
 | []=>F
 |p::r=>upd (addL F r) p.1 p.2
noncomputable abbrev adr(ns:Zl):List Addr:=ns.map (·.1)
theorem Zcc{F:Hp}{b:Addr}:∀{ns:Zl},b∉adr ns→addL F ns b=F b
 | [],_=>rfl
 |p::r,h=>by
  have h1:b≠p.1:=fun e=>h (by rw[e];exact List.mem_cons_self)
  have h2:b∉adr r:=fun e=>h (List.mem_cons_of_mem _ e)
  show upd (addL F r) p.1 p.2 b=F b
  rw[Zs h1,Zcc h2]
theorem Zfs{F:Hp}{p:Addr×HO}:∀{ns:Zl},(adr ns).Nodup→p∈ns→addL F ns p.1=some p.2
 | [],_,h=>nomatch h
 |q::r,nd,h=>by
  obtain⟨n1,n2⟩:=List.nodup_cons.mp nd
  show upd (addL F r) q.1 q.2 p.1=some p.2
  rcases List.mem_cons.mp h with e|e
  ·subst e;exact Z9
  ·rw[Zs fun z=>n1 (List.mem_map.mpr ⟨p,e,z⟩)]
   exact Zfs n2 e
theorem Zax{F:Hp}{ns:Zl}(h:∀p∈ns,F p.1=none):Same F (addL F ns):=fun b o e=>by
 by_cases hb:b∈adr ns
 ·obtain⟨p,hp,ep⟩:=List.mem_map.mp hb
  subst ep
  rw[h p hp]at e;cases e
 ·rw[Zcc hb];exact e
theorem Zlt{F H:Hp}{ns:Zl}(nd:(adr ns).Nodup)(le:Same F H)(h:∀p∈ns,H p.1=some p.2):Same (addL F ns) H:=fun b o e=>by
 by_cases hb:b∈adr ns
 ·obtain⟨p,hp,ep⟩:=List.mem_map.mp hb
  subst ep
  rw[Zfs nd hp]at e
  cases e
  exact h p hp
 ·rw[Zcc hb]at e;exact le b o e
theorem Zi7{Z:Hp×Hp}{F:Hp}{ns:Zl}(nd:(adr ns).Nodup)(fro:∀(b:Addr) (o:HO),F b=some o→Z.2 b=some o∨Z.1 b=none)(hz:∀p∈ns,Z.1 p.1=none):∀(b:Addr) (o:HO),addL F ns b=some o→Z.2 b=some o∨Z.1 b=none:=fun b o e=>by
 by_cases hb:b∈adr ns
 ·obtain⟨p,hp,ep⟩:=List.mem_map.mp hb
  subst ep
  exact .inr (hz p hp)
 ·rw[Zcc hb]at e;exact fro b o e
theorem Kids.rep{F F':Hp}(s:Same F F'):∀{xss:List (List D)} {ws:List V} {ns:Zl},Kids K F xss ws ns→(∀p∈ns,F' p.1=some p.2)→Reps K F' (xss.map D.lst) ws
 |_,_,_,.nil,_=>.nil
 |_,_,_,.cons r t,h=>.cons (.lst (.inl (.inl (h _ List.mem_cons_self))) (r.mono s)) (t.rep s fun p hp=>h p (List.mem_cons_of_mem _ hp))
theorem Shape.rep{F:Hp}{sv:SV}{v:V}{ns:Zl}(h:Shape K F sv v ns)(nd:(adr ns).Nodup)(hn:∀p∈ns,F p.1=none):Rep K (addL F ns) sv.toD v:=by
 have s:=Zax hn
 have a:∀p∈ns,addL F ns p.1=some p.2:=fun p hp=>Zfs nd hp
 cases h with
 |fz h=>exact h
 |ol r=>exact .lst (.inl (.inl (a (_,_) List.mem_cons_self))) (r.mono s)
 |oK e r=>exact .dK (a (_,_) List.mem_cons_self) e (r.mono s)
 |oT kb e r=>exact .dT (a (_,_) List.mem_cons_self) (kb.mono s) e (r.mono s)
 |oN e r=>exact .dK (a (_,_) List.mem_cons_self) e (r.rep s fun p hp=>a p (List.mem_cons_of_mem _ hp))
 |oL _ r=>exact .lst (.inl (.inl (a (_,_) List.mem_cons_self))) (r.rep s fun p hp=>a p (List.mem_cons_of_mem _ hp))
 |oQ e r=>exact .dK (a (_,_) List.mem_cons_self) e (r.mono s)
noncomputable abbrev DSt:=List (Option SV)
set_option genInjectivity false in
structure Ent(K:PySem.W.Frag)where
 h:Hp
 f:Hp
 x:EXT
noncomputable abbrev ent(H F:Hp):Ent K:=⟨H,F,fun _ _ _ _=>False⟩
set_option genInjectivity false in
structure Exn where
 c:Str
 ks:List Str:=[]
 vs:List D:=[]
noncomputable def Zi8(K:PySem.W.Frag)(F:Hp)(e:Exn)(cls:Value)(od:Option Addr):Prop:=∃C,Zh7 K e.c C∧cls= .ref C∧match od with
 |none=>e.ks=[]∧e.vs=[]
 |some dx=>∃fs:List (Str×V),F dx=some (.xd fs)∧fs.map (·.1)=e.ks∧Reps K F e.vs (fs.map (·.2))
structure SR(Z:Ent K)(F H:Hp)(σ:St)(δ:DSt)(own:Nat→Zl):Prop where
 le:Same F H
 fro:∀(b:Addr) (o:HO),F b=some o→Z.f b=some o∨Z.h b=none
 old:Same Z.h H
 len:σ.length=δ.length
 at':∀(i:Nat) (sv:SV),δ[i]? =some (some sv)→∃v,σ[i]? =some (some v)∧Shape K F sv v (own i)
 nod:∀i:Nat,(adr (own i)).Nodup
 ok:∀(i:Nat) (p:Addr×HO),p∈own i→F p.1=none∧Z.h p.1=none∧H p.1=some p.2
 sep:∀(i j:Nat) (p q:Addr×HO),i≠j→p∈own i→q∈own j→p.1≠q.1
inductive RV where
 |tmp (sv:SV)|bw (i:Nat)
structure TmpOk(Z:Ent K)(F H:Hp)(own:Nat→Zl)(sv:SV)(v:V)(ns:Zl):Prop where
 sh:Shape K F sv v ns
 nd:(adr ns).Nodup
 ok:∀p∈ns,F p.1=none∧Z.h p.1=none∧H p.1=some p.2
 sep:∀(i:Nat) (p q:Addr×HO),p∈ns→q∈own i→p.1≠q.1
noncomputable def Zlu(Z:Ent K)(F H:Hp)(σ:St)(own:Nat→Zl):RV→V→Prop
 | .tmp sv,v=>∃ns,TmpOk Z F H own sv v ns
 | .bw i,v=>σ[i]? =some (some v)
theorem TmpOk.fz{Z:Ent K}{F H:Hp}{own:Nat→Zl}{d:D}{v:V}(h:Rep K F d v):TmpOk Z F H own (.fz d) v []:=
 ⟨.fz h,List.nodup_nil,fun _ h=>(nomatch h),fun _ _ _ h=>(nomatch h)⟩
theorem Zcd{H:Hp}{p:Addr}{o:HO}(h:H p=none):Same H (upd H p o):=fun b u e=>by
 rw[Zs fun z=>by rw[z,h]at e;cases e];exact e
theorem SR.grow{Z:Ent K}{F H H':Hp}{σ:St}{δ:DSt}{own:Nat→Zl}(s:SR Z F H σ δ own)(h:Same H H'):SR Z F H' σ δ own:=
 ⟨s.le.trans h,s.fro,s.old.trans h,s.len,s.at',s.nod,fun i p hp=>let⟨a,b,c⟩:=s.ok i p hp;⟨a,b,h _ _ c⟩,s.sep⟩
theorem SR.addF{Z:Ent K}{F H:Hp}{σ:St}{δ:DSt}{own:Nat→Zl}{ns:Zl}(s:SR Z F H σ δ own)(nd:(adr ns).Nodup)(hn:∀p∈ns,F p.1=none)(hH:∀p∈ns,H p.1=some p.2)(hz:∀p∈ns,Z.h p.1=none)
  (hs:∀(i:Nat) (p q:Addr×HO),p∈ns→q∈own i→p.1≠q.1):SR Z (addL F ns) H σ δ own:=by
 have sm:=Zax hn
 refine⟨Zlt nd s.le hH,Zi7 (Z:=(Z.h,Z.f)) nd s.fro hz,s.old,s.len,fun i sv e=>?_,s.nod,fun i p hp=>?_,s.sep⟩
 ·obtain⟨v,h1,h2⟩:=s.at' i sv e
  exact⟨v,h1,h2.mono sm⟩
 ·obtain⟨a,b,c⟩:=s.ok i p hp
  refine⟨?_,b,c⟩
  rw[Zcc fun hb=>?_]
  ·exact a
  ·obtain⟨q,hq,e⟩:=List.mem_map.mp hb
   exact hs i q p hq hp e
theorem SR.settle{Z:Ent K}{F H:Hp}{σ:St}{δ:DSt}{own:Nat→Zl}{sv:SV}{v:V}{ns:Zl}(s:SR Z F H σ δ own)(t:TmpOk Z F H own sv v ns):
  ∃F1,Same F F1∧SR Z F1 H σ δ own∧Rep K F1 sv.toD v:=
 ⟨addL F ns,Zax fun p hp=>(t.ok p hp).1,s.addF t.nd (fun p hp=>(t.ok p hp).1) (fun p hp=>(t.ok p hp).2.2) (fun p hp=>(t.ok p hp).2.1) t.sep,t.sh.rep t.nd fun p hp=>(t.ok p hp).1⟩
noncomputable def put(own:Nat→Zl)(i:Nat)(ns:Zl):Nat→Zl:=fun j=>if j=i then ns else own j
theorem Zz{own:Nat→Zl}{i:Nat}{ns:Zl}:put own i ns i=ns:=if_pos rfl
theorem Zak{own:Nat→Zl}{i j:Nat}{ns:Zl}(h:j≠i):put own i ns j=own j:=if_neg h
theorem SR.freeze{Z:Ent K}{F H:Hp}{σ:St}{δ:DSt}{own:Nat→Zl}{i:Nat}{sv:SV}(s:SR Z F H σ δ own)(e:δ[i]? =some (some sv)):
  ∃F1 v,Same F F1∧σ[i]? =some (some v)∧Rep K F1 sv.toD v∧SR Z F1 H σ (δ.set i (some (.fz sv.toD))) (put own i []):=by
 obtain⟨v,h1,h2⟩:=s.at' i sv e
 have hn:∀p∈own i,F p.1=none:=fun p hp=>(s.ok i p hp).1
 have sm:=Zax hn
 have hi:i<δ.length:=(List.getElem?_eq_some_iff.mp e).1
 refine⟨addL F (own i),v,sm,h1,h2.rep (s.nod i) hn,⟨Zlt (s.nod i) s.le fun p hp=>(s.ok i p hp).2.2,Zi7 (Z:=(Z.h,Z.f)) (s.nod i) s.fro fun p hp=>(s.ok i p hp).2.1,s.old,by rw[List.length_set];exact s.len,fun j sw ej=>?_,fun j=>?_,fun j p hp=>?_,fun j k p q hjk hp hq=>?_⟩⟩
 ·by_cases hj:j=i
  ·subst hj
   rw[List.getElem?_set_self hi]at ej
   cases ej
   rw[Zz]
   exact⟨v,h1,.fz (h2.rep (s.nod j) hn)⟩
  ·rw[List.getElem?_set_ne (Ne.symm hj)]at ej
   obtain⟨w,g1,g2⟩:=s.at' j sw ej
   rw[Zak hj]
   exact⟨w,g1,g2.mono sm⟩
 ·by_cases hj:j=i
  ·subst hj;rw[Zz];exact List.nodup_nil
  ·rw[Zak hj];exact s.nod j
 ·by_cases hj:j=i
  ·subst hj;rw[Zz]at hp;exact nomatch hp
  ·rw[Zak hj]at hp
   obtain⟨a,b,c⟩:=s.ok j p hp
   refine⟨?_,b,c⟩
   rw[Zcc fun hb=>?_]
   ·exact a
   ·obtain⟨q,hq,z⟩:=List.mem_map.mp hb
    exact s.sep i j q p (Ne.symm hj) hq hp z
 ·by_cases hj:j=i
  ·subst hj;rw[Zz]at hp;exact nomatch hp
  ·by_cases hk:k=i
   ·subst hk;rw[Zz]at hq;exact nomatch hq
   ·rw[Zak hj]at hp
    rw[Zak hk]at hq
    exact s.sep j k p q hjk hp hq
theorem SR.store{Z:Ent K}{F H:Hp}{σ:St}{δ:DSt}{own:Nat→Zl}{i:Nat}{sv:SV}{v:V}{ns:Zl}(s:SR Z F H σ δ own)(t:TmpOk Z F H own sv v ns)(hi:i<σ.length):
  SR Z F H (σ.set i (some v)) (δ.set i (some sv)) (put own i ns):=by
 refine⟨s.le,s.fro,s.old,by rw[List.length_set,List.length_set];exact s.len,fun j sw ej=>?_,fun j=>?_,fun j p hp=>?_,fun j k p q hjk hp hq=>?_⟩
 ·by_cases hj:j=i
  ·subst hj
   have hd:j<δ.length:=by
    have:=(List.getElem?_eq_some_iff.mp ej).1
    simpa using this
   rw[List.getElem?_set_self hd]at ej
   cases ej
   rw[Zz,List.getElem?_set_self hi]
   exact⟨v,rfl,t.sh⟩
  ·rw[List.getElem?_set_ne (Ne.symm hj)]at ej
   rw[Zak hj,List.getElem?_set_ne (Ne.symm hj)]
   exact s.at' j sw ej
 ·by_cases hj:j=i
  ·subst hj;rw[Zz];exact t.nd
  ·rw[Zak hj];exact s.nod j
 ·by_cases hj:j=i
  ·subst hj;rw[Zz]at hp;exact t.ok p hp
  ·rw[Zak hj]at hp;exact s.ok j p hp
 ·by_cases hj:j=i
  ·subst hj
   rw[Zz]at hp
   rw[Zak (Ne.symm hjk)]at hq
   exact t.sep k p q hp hq
  ·by_cases hk:k=i
   ·subst hk
    rw[Zz]at hq
    rw[Zak hj]at hp
    exact Ne.symm (t.sep j q p hq hp)
   ·rw[Zak hj]at hp
    rw[Zak hk]at hq
    exact s.sep j k p q hjk hp hq
theorem SR.change{Z:Ent K}{F H:Hp}{σ:St}{δ:DSt}{own:Nat→Zl}{i:Nat}{sv sv':SV}{a:Addr}{o o':HO}{v:V}{ns':Zl}(s:SR Z F H σ δ own)(e:δ[i]? =some (some sv))(hv:σ[i]? =some (some v))
  (ha:(a,o)∈own i) (hs:Shape K F sv' v ns') (hns:∀p∈ns',p=(a,o')∨(p∈own i∧p.1≠a)) (nd:(adr ns').Nodup):SR Z F (upd H a o') σ (δ.set i (some sv')) (put own i ns'):=by
 obtain⟨fa,ha0,hHa⟩:=s.ok i (a,o) ha
 have hi:i<δ.length:=(List.getElem?_eq_some_iff.mp e).1
 refine⟨fun b u eb=>?_,s.fro,fun b u eb=>?_,by rw[List.length_set];exact s.len,fun j sw ej=>?_,fun j=>?_,fun j p hp=>?_,fun j k p q hjk hp hq=>?_⟩
 ·rw[Zs fun z=>by rw[z]at eb;rw[fa]at eb;cases eb];exact s.le b u eb
 ·rw[Zs fun z=>by rw[z]at eb;rw[ha0]at eb;cases eb];exact s.old b u eb
 ·by_cases hj:j=i
  ·subst hj
   rw[List.getElem?_set_self hi]at ej
   cases ej
   rw[Zz]
   exact⟨v,hv,hs⟩
  ·rw[List.getElem?_set_ne (Ne.symm hj)]at ej
   rw[Zak hj]
   exact s.at' j sw ej
 ·by_cases hj:j=i
  ·subst hj;rw[Zz];exact nd
  ·rw[Zak hj];exact s.nod j
 ·by_cases hj:j=i
  ·subst hj
   rw[Zz]at hp
   rcases hns p hp with z|⟨z,ne⟩
   ·subst z;exact⟨fa,ha0,Z9⟩
   ·obtain⟨x,y,w⟩:=s.ok j p z
    exact⟨x,y,by rw[Zs ne];exact w⟩
  ·rw[Zak hj]at hp
   obtain⟨x,y,w⟩:=s.ok j p hp
   exact⟨x,y,by rw[Zs (s.sep j i p (a,o) hj hp ha)];exact w⟩
 ·have own':∀r∈ns',∃r'∈own i,r.1=r'.1:=fun r hr=>by
   rcases hns r hr with z|⟨z,_⟩
   ·subst z;exact⟨(a,o),ha,rfl⟩
   ·exact⟨r,z,rfl⟩
  by_cases hj:j=i
  ·subst hj
   rw[Zz]at hp
   rw[Zak (Ne.symm hjk)]at hq
   obtain⟨r',hr',er⟩:=own' p hp
   rw[er]
   exact s.sep j k r' q hjk hr' hq
  ·by_cases hk:k=i
   ·subst hk
    rw[Zz]at hq
    rw[Zak hj]at hp
    obtain⟨r',hr',er⟩:=own' q hq
    rw[er]
    exact s.sep j k p r' hjk hp hr'
   ·rw[Zak hj]at hp
    rw[Zak hk]at hq
    exact s.sep j k p q hjk hp hq
end DL
namespace DL
open PySem L2
variable{K:PySem.W.Frag}
noncomputable abbrev FE:=DSt→Option (RV×DSt)
noncomputable abbrev FT:=DSt→Option (Bool×DSt)
noncomputable abbrev FA:=DSt→Option (List RV×DSt)
noncomputable abbrev FD:=DSt→Option (List D×DSt)
@[simp] noncomputable def SV.nested:SV→Bool
 | .oN _ _=>true
 | .oL _ _=>true
 |_=>false
@[simp] noncomputable def rdv:RV→DSt→Option D
 | .tmp sv,_=>some sv.toD
 | .bw i,δ=>(δ[i]?.join).bind fun sv=>if sv.nested then none else some sv.toD
@[simp] noncomputable def frz:RV→DSt→Option (D×DSt)
 | .tmp sv,δ=>some (sv.toD,δ)
 | .bw i,δ=>(δ[i]?.join).bind fun sv=>some (sv.toD,δ.set i (some (.fz sv.toD)))
theorem Zb0{δ:DSt}{i:Nat}{sv:SV}(h:δ[i]?.join=some sv):δ[i]? =some (some sv):=by
 cases e:δ[i]? with
 |none=>rw[e]at h;cases h
 |some o=>rw[e]at h;cases o with
  |none=>cases h
  |some s=>cases h;rfl
noncomputable def Zb(Z:Ent K)(f:FE):TE:=fun σ H Q=>∃F δ own rv δ',SR Z F H σ δ own∧f δ=some (rv,δ')∧
 ∀v H' F' own',Same H H'→Same F F'→SR Z F' H' σ δ' own'→Zlu Z F' H' σ own' rv v→Q v H'
noncomputable def Zw(Z:Ent K)(f:FT):TT:=fun σ H Q=>∃F δ own b δ',SR Z F H σ δ own∧f δ=some (b,δ')∧
 ∀H' F' own',Same H H'→Same F F'→SR Z F' H' σ δ' own'→Q b H'
noncomputable def RVS(K:PySem.W.Frag)(F:Hp)(σ:St):RV→V→Prop
 | .tmp sv,v=>Rep K F sv.toD v
 | .bw i,v=>σ[i]? =some (some v)
inductive RVSs(K:PySem.W.Frag)(F:Hp)(σ:St):List RV→List V→Prop where
 |nil:RVSs K F σ [] []
 |cons {rv:RV} {v:V} {rvs:List RV} {vs:List V} (h:RVS K F σ rv v) (t:RVSs K F σ rvs vs):RVSs K F σ (rv::rvs) (v::vs)
noncomputable def Zdb(Z:Ent K)(f:FA):TA:=fun σ H Q=>∃F δ own rvs δ',SR Z F H σ δ own∧f δ=some (rvs,δ')∧
 ∀vs H' F' own',Same H H'→Same F F'→SR Z F' H' σ δ' own'→RVSs K F' σ rvs vs→Q vs H'
noncomputable def Zcg(Z:Ent K)(f:FD):TA:=fun σ H Q=>∃F δ own ds δ',SR Z F H σ δ own∧f δ=some (ds,δ')∧
 ∀vs H' F' own',Same H H'→Same F F'→SR Z F' H' σ δ' own'→Reps K F' ds vs→Q vs H'
section
variable{Z:Ent K}{F H F' H':Hp}{σ:St}{δ δ':DSt}{own:Nat→Zl}{rv:RV}{v:V}{d:D}{Q:VK}
theorem RVS.mono(s:Same F F')(h:RVS K F σ rv v):RVS K F' σ rv v:=by
 cases rv with
 |tmp sv=>exact Rep.mono s h
 |bw i=>exact h
theorem SR.settleR(s:SR Z F H σ δ own)(h:Zlu Z F H σ own rv v):∃F1,Same F F1∧SR Z F1 H σ δ own∧RVS K F1 σ rv v:=by
 cases rv with
 |tmp sv=>obtain⟨ns,t⟩:=h;exact s.settle t
 |bw i=>exact⟨F,Same.refl F,s,h⟩
theorem SR.frzR(s:SR Z F H σ δ own)(h:RVS K F σ rv v)(e:frz rv δ=some (d,δ')):∃F1 own1,Same F F1∧SR Z F1 H σ δ' own1∧Rep K F1 d v:=by
 cases rv with
 |tmp sv=>cases e;exact⟨F,own,Same.refl F,s,h⟩
 |bw i=>
  obtain⟨sv,e1,e2⟩:=Option.bind_eq_some_iff.mp e
  cases e2
  obtain⟨F1,w,h1,h2,h3,h4⟩:=s.freeze (Zb0 e1)
  have h':σ[i]? =some (some v):=h
  rw[h']at h2;cases h2
  exact⟨F1,_,h1,h4,h3⟩
noncomputable def RepN(K:PySem.W.Frag)(F H:Hp)(d:D)(v:V):Prop:=∃sv ns,sv.toD=d∧sv.nested=false∧Shape K F sv v ns∧∀p∈ns,H p.1=some p.2
theorem RepN.of(h:Rep K F d v):RepN K F H d v:=⟨.fz d,[],rfl,rfl,.fz h,fun _ h=>nomatch h⟩
theorem SR.rd(s:SR Z F H σ δ own)(h:RVS K F σ rv v)(e:rdv rv δ=some d):RepN K F H d v:=by
 cases rv with
 |tmp sv=>cases e;exact RepN.of h
 |bw i=>
  obtain⟨sv,e1,e2⟩:=Option.bind_eq_some_iff.mp e
  cases hn:sv.nested with
  |true=>rw[hn]at e2;cases e2
  |false=>
   rw[hn]at e2
   cases e2
   obtain⟨w,h1,h2⟩:=s.at' i sv (Zb0 e1)
   have h':σ[i]? =some (some v):=h
   rw[h']at h1;cases h1
   exact⟨sv,own i,rfl,hn,h2,fun p hp=>(s.ok i p hp).2.2⟩
inductive RepNs(K:PySem.W.Frag)(F H:Hp):List D→List V→Prop where
 |nil:RepNs K F H [] []
 |cons {d:D} {v:V} {ds:List D} {vs:List V} (h:RepN K F H d v) (t:RepNs K F H ds vs):RepNs K F H (d::ds) (v::vs)
theorem RepN.non(h:RepN K F H .non v):v= .non:=by
 obtain⟨sv,ns,e,n,sh,hp⟩:=h
 cases sh with
 |fz r=>cases e;cases r;rfl
 |ol r=>cases e
 |oK e' r=>cases e
 |oT kb e' r=>cases e
 |oN e' r=>cases n
 |oL _ r=>cases n
 |oQ e' r=>cases e
theorem RepN.bl{b:Bool}(h:RepN K F H (.bl b) v):v= .bl b:=by
 obtain⟨sv,ns,e,n,sh,hp⟩:=h
 cases sh with
 |fz r=>cases e;cases r;rfl
 |ol r=>cases e
 |oK e' r=>cases e
 |oT kb e' r=>cases e
 |oN e' r=>cases n
 |oL _ r=>cases n
 |oQ e' r=>cases e
theorem RepN.int{i:Int}(h:RepN K F H (.int i) v):v= .int i:=by
 obtain⟨sv,ns,e,n,sh,hp⟩:=h
 cases sh with
 |fz r=>cases e;cases r;rfl
 |ol r=>cases e
 |oK e' r=>cases e
 |oT kb e' r=>cases e
 |oN e' r=>cases n
 |oL _ r=>cases n
 |oQ e' r=>cases e
theorem RepN.str{x:Str}(h:RepN K F H (.str x) v):v= .str x:=by
 obtain⟨sv,ns,e,n,sh,hp⟩:=h
 cases sh with
 |fz r=>cases e;cases r;rfl
 |ol r=>cases e
 |oK e' r=>cases e
 |oT kb e' r=>cases e
 |oN e' r=>cases n
 |oL _ r=>cases n
 |oQ e' r=>cases e
theorem RepN.tup{xs:List D}(le:Same F H)(h:RepN K F H (.tup xs) v):∃a vs,v= .ref a∧SqT K H a vs∧Reps K F xs vs:=by
 obtain⟨sv,ns,e,n,sh,hp⟩:=h
 cases sh with
 |fz r=>cases e;cases r with|tup h r=>exact⟨_,_,rfl,Zaw le (Zez h),r⟩
 |ol r=>cases e
 |oK e' r=>cases e
 |oT kb e' r=>cases e
 |oN e' r=>cases n
 |oL _ r=>cases n
 |oQ e' r=>cases e
theorem RepN.lst{xs:List D}(le:Same F H)(h:RepN K F H (.lst xs) v):∃a vs,v= .ref a∧SqL K H a vs∧Reps K F xs vs:=by
 obtain⟨sv,ns,e,n,sh,hp⟩:=h
 cases sh with
 |fz r=>cases e;cases r with|lst h r=>exact⟨_,_,rfl,Zav le h,r⟩
 |ol r=>cases e;exact⟨_,_,rfl,.inl (.inl (hp _ List.mem_cons_self)),r⟩
 |oK e' r=>cases e
 |oT kb e' r=>cases e
 |oN e' r=>cases n
 |oL _ r=>cases n
 |oQ e' r=>cases e
theorem RepN.dK{ks:List Key}{ds:List D}(le:Same F H)(h:RepN K F H (.dK ks ds) v):∃a kvs,v= .ref a∧HK H a kvs∧kvs.map (·.1)=ks∧Reps K F ds (kvs.map (·.2)):=by
 obtain⟨sv,ns,e,n,sh,hp⟩:=h
 cases sh with
 |fz r=>cases e;cases r with|dK h e r=>exact⟨_,_,rfl,⟨_,le _ _ h⟩,e,r⟩
 |ol r=>cases e
 |oK e' r=>cases e;exact⟨_,_,rfl,⟨_,hp _ List.mem_cons_self⟩,e',r⟩
 |oT kb e' r=>cases e
 |oN e' r=>cases n
 |oL _ r=>cases n
 |oQ e' r=>cases e;exact⟨_,_,rfl,⟨_,hp _ List.mem_cons_self⟩,e',r⟩
theorem RepN.dT{ks:List (List Key)}{ds:List D}(le:Same F H)(h:RepN K F H (.dT ks ds) v):∃a kvs,v= .ref a∧HTt H a kvs∧kvs.map (·.1)=ks∧Reps K F ds (kvs.map (·.2)):=by
 obtain⟨sv,ns,e,n,sh,hp⟩:=h
 cases sh with
 |fz r=>cases e;cases r with|dT h kb e r=>exact⟨_,_,rfl,⟨_,_,le _ _ h⟩,e,r⟩
 |ol r=>cases e
 |oK e' r=>cases e
 |oT kb e' r=>cases e;exact⟨_,_,rfl,⟨_,_,hp _ List.mem_cons_self⟩,e',r⟩
 |oN e' r=>cases n
 |oL _ r=>cases n
 |oQ e' r=>cases e
end
theorem nd1{a:Addr}:([a]:List Addr).Nodup:=List.nodup_cons.mpr ⟨fun h=>(nomatch h),List.nodup_nil⟩
noncomputable def Fin(Z:Ent K)(F H:Hp)(σ:St)(δ:DSt)(own:Nat→Zl)(sv:SV)(Q:VK):Prop:=
 ∀v H' F' ns,Same H H'→Same F F'→SR Z F' H' σ δ own→TmpOk Z F' H' own sv v ns→Q v H'
section
variable{Z:Ent K}{F H:Hp}{σ:St}{δ:DSt}{own:Nat→Zl}{Q:VK}
theorem Fin.fz{d:D}{v:V}(f:Fin Z F H σ δ own (.fz d) Q)(s:SR Z F H σ δ own)(h:Rep K F d v):Q v H:=f v H F [] (Same.refl H) (Same.refl F) s (.fz h)
theorem Fin.one{sv:SV}{o:HO}{p:Addr}(f:Fin Z F H σ δ own sv Q)(s:SR Z F H σ δ own)(sh:Shape K F sv (.ref p) [(p,o)])(hp:H p=none):Q (.ref p) (upd H p o):=by
 have sm:=Zcd (o:=o) hp
 refine f (.ref p) (upd H p o) F [(p,o)] sm (Same.refl F) (s.grow sm) ⟨sh,nd1,fun q hq=>?_,fun i q r hq hr=>?_⟩
 ·obtain rfl:=List.mem_singleton.mp hq
  exact⟨s.le.free hp,s.old.free hp,Z9⟩
 ·obtain rfl:=List.mem_singleton.mp hq
  intro e
  have e':p=r.1:=e
  have z:=(s.ok i r hr).2.2
  rw[←e',hp]at z;cases z
theorem Fin.lst{xs:List D}{vs:List V}{p:Addr}(f:Fin Z F H σ δ own (.ol xs) Q)(s:SR Z F H σ δ own)(r:Reps K F xs vs)(hp:H p=none):Q (.ref p) (upd H p (.lst vs)):=f.one s (.ol r) hp
theorem Fin.tup{xs:List D}{vs:List V}{p:Addr}(f:Fin Z F H σ δ own (.fz (.tup xs)) Q)(s:SR Z F H σ δ own)(r:Reps K F xs vs)(hp:H p=none):Q (.ref p) (upd H p (.tup vs)):=by
 have sm:=Zcd (o:=.tup vs) hp
 have sF:Same F (addL F [(p,.tup vs)]):=Zax fun q hq=>by obtain rfl:=List.mem_singleton.mp hq;exact s.le.free hp
 refine f (.ref p) (upd H p (.tup vs)) (addL F [(p,.tup vs)]) [] sm sF ?_ (.fz (.tup Z9 (r.mono sF)))
 refine(s.grow sm).addF (nd1) (fun q hq=>?_) (fun q hq=>?_) (fun q hq=>?_) fun i q u hq hu=>?_
 ·obtain rfl:=List.mem_singleton.mp hq;exact s.le.free hp
 ·obtain rfl:=List.mem_singleton.mp hq;exact Z9
 ·obtain rfl:=List.mem_singleton.mp hq;exact s.old.free hp
 ·obtain rfl:=List.mem_singleton.mp hq
  intro e
  have e':p=u.1:=e
  have z:=(s.ok i u hu).2.2
  rw[←e',hp]at z;cases z
end
theorem Zcv{F:Hp}{d:D}{v:V}{ns:Zl}(h:Shape K F (.fz d) v ns):Rep K F d v:=by
 cases h with
 |fz r=>exact r
section
variable{Z:Ent K}{H:Hp}{σ:St}{Q:VK}
@[simp] noncomputable def Za(i:Nat):FE:=fun δ=>match δ[i]? with
 |some (some (.fz d))=>some (.tmp (.fz d),δ)
 |some (some _)=>some (.bw i,δ)
 |_=>none
theorem Zx2{i:Nat}(h:Zb Z (Za i) σ H Q):tVar i σ H Q:=by
 obtain⟨F,δ,own,rv,δ',s,e,k⟩:=h
 unfold Za at e
 split at e
 ·rename_i d hd
  cases e
  obtain⟨v,h1,h2⟩:=s.at' i _ hd
  exact⟨v,h1,k v H F own (Same.refl H) (Same.refl F) s ⟨[],.fz (Zcv h2)⟩⟩
 ·rename_i sv hsv hd
  cases e
  obtain⟨v,h1,h2⟩:=s.at' i _ hd
  exact⟨v,h1,k v H F own (Same.refl H) (Same.refl F) s h1⟩
 ·cases e
@[simp] noncomputable def Ze(d:D):FE:=fun δ=>some (.tmp (.fz d),δ)
theorem Zeb{d:D}{v:V}(hr:∀F,Rep K F d v)(h:Zb Z (Ze d) σ H Q):tC v σ H Q:=by
 obtain⟨F,δ,own,rv,δ',s,e,k⟩:=h
 cases e
 exact k v H F own (Same.refl H) (Same.refl F) s ⟨[],.fz (hr F)⟩
@[simp] noncomputable def Zh:FA:=fun δ=>some ([],δ)
@[simp] noncomputable def Zd(fe:FE)(fa:FA):FA:=fun δ=>(fe δ).bind fun p=>(fa p.2).bind fun q=>some (p.1::q.1,q.2)
theorem Zob{R:List V→Hp→Prop}(h:Zdb Z Zh σ H R):tNil σ H R:=by
 obtain⟨F,δ,own,rvs,δ',s,e,k⟩:=h
 cases e
 exact k [] H F own (Same.refl H) (Same.refl F) s .nil
theorem Zlv{fe:FE}{fa:FA}{R:List V→Hp→Prop}(h:Zdb Z (Zd fe fa) σ H R):Zn0 (Zb Z fe) (Zdb Z fa) σ H R:=by
 obtain⟨F,δ,own,rvs,δ',s,e,k⟩:=h
 obtain⟨⟨rv,δ1⟩,e1,e2⟩:=Option.bind_eq_some_iff.mp e
 obtain⟨⟨rr,δ2⟩,e3,e4⟩:=Option.bind_eq_some_iff.mp e2
 cases e4
 refine⟨F,δ,own,rv,δ1,s,e1,fun v H1 F1 own1 sH sF s1 r1=>?_⟩
 obtain⟨F2,sF2,s2,r2⟩:=s1.settleR r1
 exact⟨F2,δ1,own1,rr,δ2,s2,e3,fun vs H3 F3 own3 sH3 sF3 s3 r3=>k _ H3 F3 own3 (sH.trans sH3) (sF.trans (sF2.trans sF3)) s3 (.cons (r2.mono sF3) r3)⟩
@[simp] noncomputable def Zco:List RV→DSt→Option (List D)
 | [],_=>some []
 |rv::r,δ=>(rdv rv δ).bind fun d=>(Zco r δ).bind fun ds=>some (d::ds)
theorem SR.rdAll{F:Hp}{δ:DSt}{own:Nat→Zl}(s:SR Z F H σ δ own):∀{rvs:List RV} {vs:List V} {ds:List D},RVSs K F σ rvs vs→Zco rvs δ=some ds→RepNs K F H ds vs
 |_,_,_,.nil,e=>by cases e;exact .nil
 |_,_,_,.cons h t,e=>by
  obtain⟨d,e1,e2⟩:=Option.bind_eq_some_iff.mp e
  obtain⟨ds,e3,e4⟩:=Option.bind_eq_some_iff.mp e2
  cases e4
  exact .cons (s.rd h e1) (s.rdAll t e3)
@[simp] noncomputable def Zbk(g:List D→Option SV)(fa:FA):FE:=fun δ=>(fa δ).bind fun p=>(Zco p.1 p.2).bind fun ds=>(g ds).bind fun sv=>some (.tmp sv,p.2)
noncomputable def Zft(Z:Ent K)(r:List V→Hp→VK→Prop)(g:List D→Option SV):Prop:=
 ∀(F H:Hp) (σ:St) (δ:DSt) (own:Nat→Zl) (vs:List V) (ds:List D) (sv:SV) (Q:VK),SR Z F H σ δ own→RepNs K F H ds vs→g ds=some sv→Fin Z F H σ δ own sv Q→r vs H Q
theorem Zi9{r:List V→Hp→VK→Prop}{g:List D→Option SV}{fa:FA}(hg:Zft Z r g)(h:Zb Z (Zbk g fa) σ H Q):tCB r (Zdb Z fa) σ H Q:=by
 obtain⟨F,δ,own,rv,δ',s,e,k⟩:=h
 obtain⟨⟨rvs,δ1⟩,e1,e2⟩:=Option.bind_eq_some_iff.mp e
 obtain⟨ds,e3,e4⟩:=Option.bind_eq_some_iff.mp e2
 obtain⟨sv,e5,e6⟩:=Option.bind_eq_some_iff.mp e4
 cases e6
 refine⟨F,δ,own,rvs,δ1,s,e1,fun vs H1 F1 own1 sH sF s1 r1=>?_⟩
 exact hg F1 H1 σ δ1 own1 vs ds sv Q s1 (s1.rdAll r1 e3) e5 fun v H2 F2 ns sH2 sF2 s2 t=>k v H2 F2 own1 (sH.trans sH2) (sF.trans sF2) s2 ⟨ns,t⟩
@[simp] noncomputable def g2(g:D→D→Option SV):List D→Option SV
 | [x,y]=>g x y
 |_=>none
@[simp] noncomputable def binF(g:D→D→Option SV)(fa fb:FE):FE:=Zbk (g2 g) (Zd fa (Zd fb Zh))
noncomputable def Zaf(Z:Ent K)(r:R2)(g:D→D→Option SV):Prop:=
 ∀(F H:Hp) (σ:St) (δ:DSt) (own:Nat→Zl) (x y:V) (d1 d2:D) (sv:SV) (Q:VK),SR Z F H σ δ own→RepN K F H d1 x→RepN K F H d2 y→g d1 d2=some sv→Fin Z F H σ δ own sv Q→r x y H Q
theorem Zlw{r:R2}{g:D→D→Option SV}{fa fb:FE}(hg:Zaf Z r g)(h:Zb Z (binF g fa fb) σ H Q):tOp r (Zb Z fa) (Zb Z fb) σ H Q:=by
 have hN:Zft Z (fun vs H Q=>∃x y,vs=[x,y]∧r x y H Q) (g2 g):=by
  intro F H σ δ own vs ds sv Q s rs e f
  cases rs with
  |nil=>cases e
  |cons h1 t1=>
   cases t1 with
   |nil=>cases e
   |cons h2 t2=>
    cases t2 with
    |nil=>exact⟨_,_,rfl,hg F H σ δ own _ _ _ _ sv Q s h1 h2 e f⟩
    |cons h3 t3=>cases e
 obtain⟨F,δ,own,rv,δ',s,e,k⟩:=Zi9 hN h
 obtain⟨⟨rv1,δ1⟩,e1,e2⟩:=Option.bind_eq_some_iff.mp e
 obtain⟨⟨rr,δ2⟩,e3,e4⟩:=Option.bind_eq_some_iff.mp e2
 cases e4
 obtain⟨⟨rv2,δ3⟩,e5,e6⟩:=Option.bind_eq_some_iff.mp e3
 obtain⟨⟨rr',δ4⟩,e7,e8⟩:=Option.bind_eq_some_iff.mp e6
 cases e8
 cases e7
 refine⟨F,δ,own,rv1,δ1,s,e1,fun v H1 F1 own1 sH sF s1 r1=>?_⟩
 obtain⟨F2,sF2,s2,r2⟩:=s1.settleR r1
 refine⟨F2,δ1,own1,rv2,δ3,s2,e5,fun u H3 F3 own3 sH3 sF3 s3 r3=>?_⟩
 obtain⟨F4,sF4,s4,r4⟩:=s3.settleR r3
 obtain⟨x,y,exy,q⟩:=k [v,u] H3 F4 own3 (sH.trans sH3) (sF.trans (sF2.trans (sF3.trans sF4))) s4 (.cons (r2.mono (sF3.trans sF4)) (.cons r4 .nil))
 injection exy with ex ey
 injection ey with ey _
 subst ex ey
 exact q
@[simp] noncomputable def unF(g:D→Option SV)(fa:FE):FE:=Zbk (fun| [x]=>g x|_=>none) (Zd fa Zh)
noncomputable def Zu1(Z:Ent K)(r:V→Hp→VK→Prop)(g:D→Option SV):Prop:=
 ∀(F H:Hp) (σ:St) (δ:DSt) (own:Nat→Zl) (x:V) (d:D) (sv:SV) (Q:VK),SR Z F H σ δ own→RepN K F H d x→g d=some sv→Fin Z F H σ δ own sv Q→r x H Q
theorem l_un{r:V→Hp→VK→Prop}{g:D→Option SV}{fa:FE}(hg:Zu1 Z r g)(h:Zb Z (unF g fa) σ H Q):tUn r (Zb Z fa) σ H Q:=by
 obtain⟨F,δ,own,rv,δ',s,e,k⟩:=h
 obtain⟨⟨rvs,δ1⟩,e1,e2⟩:=Option.bind_eq_some_iff.mp e
 obtain⟨ds,e3,e4⟩:=Option.bind_eq_some_iff.mp e2
 obtain⟨sv,e5,e6⟩:=Option.bind_eq_some_iff.mp e4
 cases e6
 obtain⟨⟨rv1,δ2⟩,e7,e8⟩:=Option.bind_eq_some_iff.mp e1
 obtain⟨⟨rr',δ4⟩,e9,e10⟩:=Option.bind_eq_some_iff.mp e8
 cases e10
 cases e9
 obtain⟨d,e11,e12⟩:=Option.bind_eq_some_iff.mp e3
 cases e12
 refine⟨F,δ,own,rv1,δ2,s,e7,fun v H1 F1 own1 sH sF s1 r1=>?_⟩
 obtain⟨F2,sF2,s2,r2⟩:=s1.settleR r1
 exact hg F2 H1 σ δ2 own1 v d sv Q s2 (s2.rd r2 e11) e5 fun v H2 F2' ns sH2 sF2' s2 t=>k v H2 F2' own1 (sH.trans sH2) (sF.trans (sF2.trans sF2')) s2 ⟨ns,t⟩
@[simp] noncomputable def Z0:FD:=fun δ=>some ([],δ)
@[simp] noncomputable def Zq(fe:FE)(fd:FD):FD:=fun δ=>(fe δ).bind fun p=>(frz p.1 p.2).bind fun q=>(fd q.2).bind fun r=>some (q.1::r.1,r.2)
theorem Zlx{R:List V→Hp→Prop}(h:Zcg Z Z0 σ H R):tNil σ H R:=by
 obtain⟨F,δ,own,rvs,δ',s,e,k⟩:=h
 cases e
 exact k [] H F own (Same.refl H) (Same.refl F) s .nil
theorem Zki{fe:FE}{fd:FD}{R:List V→Hp→Prop}(h:Zcg Z (Zq fe fd) σ H R):Zn0 (Zb Z fe) (Zcg Z fd) σ H R:=by
 obtain⟨F,δ,own,rvs,δ',s,e,k⟩:=h
 obtain⟨⟨rv,δ1⟩,e1,e2⟩:=Option.bind_eq_some_iff.mp e
 obtain⟨⟨d,δ2⟩,e3,e4⟩:=Option.bind_eq_some_iff.mp e2
 obtain⟨⟨ds,δ3⟩,e5,e6⟩:=Option.bind_eq_some_iff.mp e4
 cases e6
 refine⟨F,δ,own,rv,δ1,s,e1,fun v H1 F1 own1 sH sF s1 r1=>?_⟩
 obtain⟨F2,sF2,s2,r2⟩:=s1.settleR r1
 obtain⟨F3,own3,sF3,s3,r3⟩:=s2.frzR r2 e3
 exact⟨F3,δ2,own3,ds,δ3,s3,e5,fun vs H4 F4 own4 sH4 sF4 s4 r4=>k _ H4 F4 own4 (sH.trans sH4) (sF.trans (sF2.trans (sF3.trans sF4))) s4 (.cons (r3.mono sF4) r4)⟩
@[simp] noncomputable def tupF(fd:FD):FE:=fun δ=>(fd δ).bind fun p=>if p.1.length≤PySem.sizeLine then some (.tmp (.fz (.tup p.1)),p.2)else none
@[simp] noncomputable def lstF(fd:FD):FE:=fun δ=>(fd δ).bind fun p=>if p.1.length≤PySem.sizeLine then some (.tmp (.ol p.1),p.2)else none
theorem Zx3{fd:FD}(h:Zb Z (tupF fd) σ H Q):tTup (Zcg Z fd) σ H Q:=by
 obtain⟨F,δ,own,rv,δ',s,e,k⟩:=h
 obtain⟨⟨ds,δ1⟩,e1,e2⟩:=Option.bind_eq_some_iff.mp e
 by_cases hz:ds.length≤PySem.sizeLine
 ·rw[if_pos hz]at e2
  cases e2
  refine⟨F,δ,own,ds,δ1,s,e1,fun vs H1 F1 own1 sH sF s1 r1=>⟨by rw[←r1.length];exact hz,fun p hp=>?_⟩⟩
  exact Fin.tup (fun v H2 F2 ns a b c t=>k v H2 F2 own1 (sH.trans a) (sF.trans b) c ⟨ns,t⟩) s1 r1 hp
 ·rw[if_neg hz]at e2;cases e2
theorem Zx4{fd:FD}(h:Zb Z (lstF fd) σ H Q):tLst (Zcg Z fd) σ H Q:=by
 obtain⟨F,δ,own,rv,δ',s,e,k⟩:=h
 obtain⟨⟨ds,δ1⟩,e1,e2⟩:=Option.bind_eq_some_iff.mp e
 by_cases hz:ds.length≤PySem.sizeLine
 ·rw[if_pos hz]at e2
  cases e2
  refine⟨F,δ,own,ds,δ1,s,e1,fun vs H1 F1 own1 sH sF s1 r1=>⟨by rw[←r1.length];exact hz,fun p hp=>?_⟩⟩
  exact Fin.lst (fun v H2 F2 ns a b c t=>k v H2 F2 own1 (sH.trans a) (sF.trans b) c ⟨ns,t⟩) s1 r1 hp
 ·rw[if_neg hz]at e2;cases e2
end
@[simp] noncomputable def SV.scal:SV→Bool
 | .fz .non=>true
 | .fz (.bl _)=>true
 | .fz (.int _)=>true
 | .fz (.str _)=>true
 |_=>false
noncomputable def spOf(K:PySem.W.Frag)(n:Nat)(g:List D→Option SV):Sp:=fun vs H Q _=>∃F ds sv,Same F H∧Reps K F ds vs∧ds.length=n∧g ds=some sv∧
 ∀v H' F' ns,Same H H'→Same F F'→Same F' H'→(∀(b:Addr) (o:HO),F' b=some o→F b=some o∨H b=none)→Shape K F' sv v ns→(adr ns).Nodup→(∀p∈ns,F' p.1=none∧H p.1=none∧H' p.1=some p.2)→Q v H'
@[simp] noncomputable def frzAll:List RV→DSt→Option (List D×DSt)
 | [],δ=>some ([],δ)
 |rv::r,δ=>(frz rv δ).bind fun p=>(frzAll r p.2).bind fun q=>some (p.1::q.1,q.2)
theorem RVSs.mono{F F':Hp}{σ:St}(s:Same F F'){rvs:List RV}{vs:List V}(h:RVSs K F σ rvs vs):RVSs K F' σ rvs vs:=by
 induction h with
 |nil=>exact .nil
 |cons h _ ih=>exact .cons (h.mono s) ih
section
variable{Z:Ent K}{H:Hp}{σ:St}{Q:VK}
theorem SR.frzAll{F:Hp}{δ:DSt}{own:Nat→Zl}:∀{rvs:List RV} {vs:List V} {ds:List D} {δ':DSt} {F:Hp} {δ:DSt} {own:Nat→Zl},SR Z F H σ δ own→RVSs K F σ rvs vs→DL.frzAll rvs δ=some (ds,δ')→
  ∃F1 own1,Same F F1∧SR Z F1 H σ δ' own1∧Reps K F1 ds vs
 |_,_,_,_,F,_,own,s,.nil,e=>by cases e;exact⟨F,own,Same.refl F,s,.nil⟩
 |_,_,_,_,F,_,own,s,.cons h t,e=>by
  obtain⟨⟨d,δ1⟩,e1,e2⟩:=Option.bind_eq_some_iff.mp e
  obtain⟨⟨ds,δ2⟩,e3,e4⟩:=Option.bind_eq_some_iff.mp e2
  cases e4
  obtain⟨F1,own1,sF1,s1,r1⟩:=s.frzR h e1
  obtain⟨F2,own2,sF2,s2,r2⟩:=SR.frzAll (own:=own) (F:=F) (δ:=δ1) s1 (t.mono sF1) e3
  exact⟨F2,own2,sF1.trans sF2,s2,.cons (r1.mono sF2) r2⟩
@[simp] noncomputable def Zbx(n:Nat)(g:List D→Option SV)(fa:FA):FE:=fun δ=>(fa δ).bind fun p=>(DL.frzAll p.1 p.2).bind fun q=>if q.1.length=n then(g q.1).bind fun sv=>some (.tmp sv,if sv.scal then p.2 else q.2)else none
theorem Zoc{F F':Hp}{sv:SV}{v:V}{ns:Zl}(h:sv.scal=true)(sh:Shape K F sv v ns):ns=[]∧Shape K F' sv v []:=by
 cases sh with
 |fz r=>
  refine⟨rfl,.fz ?_⟩
  cases r with
  |non=>exact .non
  |bl b=>exact .bl b
  |int i=>exact .int i
  |str x=>exact .str x
  |tup _ _=>cases h
  |lst _ _=>cases h
  |dK _ _ _=>cases h
  |dT _ _ _ _=>cases h
  |exc _ _=>cases h
  |exd _ _ _ _ _=>cases h
 |ol _=>cases h
 |oK _ _=>cases h
 |oT _ _ _=>cases h
 |oN _ _=>cases h
 |oL _ _=>cases h
 |oQ _ _=>cases h
theorem Zu2{n:Nat}{g:List D→Option SV}{fa:FA}{E:XK}(h:Zb Z (Zbx n g fa) σ H Q):Zui (spOf K n g) [] E (Zdb Z fa) σ H Q:=by
 obtain⟨F,δ,own,rv,δ',s,e,k⟩:=h
 obtain⟨⟨rvs,δ1⟩,e1,e2⟩:=Option.bind_eq_some_iff.mp e
 obtain⟨⟨ds,δ2⟩,e3,e4⟩:=Option.bind_eq_some_iff.mp e2
 by_cases hn:ds.length=n
 ·rw[if_pos hn]at e4
  obtain⟨sv,e5,e6⟩:=Option.bind_eq_some_iff.mp e4
  refine⟨F,δ,own,rvs,δ1,s,e1,fun vs H1 F1 own1 sH sF s1 r1=>?_⟩
  obtain⟨F2,own2,sF2,s2,r2⟩:=s1.frzAll (own:=own) (F:=F) (δ:=δ) r1 e3
  rw[List.append_nil]
  refine⟨F2,ds,sv,s2.le,r2,hn,e5,fun v H3 F3 ns sH3 sF3 le3 fro3 sh nd ok=>?_⟩
  by_cases hs:sv.scal=true
  ·rw[if_pos hs]at e6
   cases e6
   obtain⟨_,sh'⟩:=Zoc (F':=F1) hs sh
   exact k v H3 F1 own1 (sH.trans sH3) sF (s1.grow sH3) ⟨[],sh',List.nodup_nil,fun _ h=>(nomatch h),fun _ _ _ h=>(nomatch h)⟩
  ·rw[if_neg hs]at e6
   cases e6
   have s3:SR Z F3 H3 σ δ2 own2:=by
    refine⟨le3,fun b o e=>?_,s2.old.trans sH3,s2.len,fun i sw ei=>?_,s2.nod,fun i p hp=>?_,s2.sep⟩
    ·rcases fro3 b o e with z|z
     ·exact s2.fro b o z
     ·exact .inr (s2.old.free z)
    ·obtain⟨w,h1,h2⟩:=s2.at' i sw ei
     exact⟨w,h1,h2.mono sF3⟩
    ·obtain⟨a,b,c⟩:=s2.ok i p hp
     refine⟨?_,b,sH3 _ _ c⟩
     cases z:F3 p.1 with
     |none=>rfl
     |some u=>
      rcases fro3 _ u z with y|y
      ·rw[a]at y;cases y
      ·rw[c]at y;cases y
   exact k v H3 F3 own2 (sH.trans sH3) (sF.trans (sF2.trans sF3)) s3 ⟨ns,sh,nd,fun p hp=>⟨(ok p hp).1,(s2.old).free (ok p hp).2.1,(ok p hp).2.2⟩,fun i p q hp hq e=>by
    have z:=(s2.ok i q hq).2.2
    rw[←e,(ok p hp).2.1]at z;cases z⟩
 ·rw[if_neg hn]at e4;cases e4
end
end DL
namespace DL
open PySem L2
variable{K:PySem.W.Frag}
section
variable{Z:Ent K}{H:Hp}{σ:St}{R:Bool→Hp→Prop}{Q:VK}
@[simp] noncomputable def Z6(fe:FE):FT:=fun δ=>(fe δ).bind fun p=>match p.1 with
 | .tmp (.fz (.bl b))=>some (b,p.2)
 |_=>none
theorem Zly{fe:FE}(h:Zw Z (Z6 fe) σ H R):Zuf (Zb Z fe) σ H R:=by
 obtain⟨F,δ,own,b,δ',s,e,k⟩:=h
 obtain⟨⟨rv,δ1⟩,e1,e2⟩:=Option.bind_eq_some_iff.mp e
 refine⟨F,δ,own,rv,δ1,s,e1,fun v H1 F1 own1 sH sF s1 r1=>?_⟩
 dsimp only at e2
 split at e2
 ·cases e2
  obtain⟨ns,t⟩:=r1
  cases Zcv t.sh
  exact⟨_,rfl,k H1 F1 own1 sH sF s1⟩
 ·cases e2
theorem Zri{fe:FE}(h:Zw Z (Z6 fe) σ H R):tB (Zb Z fe) σ H R:=Zly h
@[simp] noncomputable def andF(f g:FT):FT:=fun δ=>(f δ).bind fun p=>if p.1=true then g p.2 else some (false,p.2)
@[simp] noncomputable def orF(f g:FT):FT:=fun δ=>(f δ).bind fun p=>if p.1=true then some (true,p.2)else g p.2
@[simp] noncomputable def notF(f:FT):FT:=fun δ=>(f δ).bind fun p=>some (!p.1,p.2)
theorem Zx5{f g:FT}(h:Zw Z (andF f g) σ H R):tAnd (Zw Z f) (Zw Z g) σ H R:=by
 obtain⟨F,δ,own,b,δ',s,e,k⟩:=h
 obtain⟨⟨c,δ1⟩,e1,e2⟩:=Option.bind_eq_some_iff.mp e
 refine⟨F,δ,own,c,δ1,s,e1,fun H1 F1 own1 sH sF s1=>?_⟩
 cases c with
 |true=>
  rw[if_pos rfl]at e2⊢
  exact⟨F1,δ1,own1,b,δ',s1,e2,fun H2 F2 own2 a c d=>k H2 F2 own2 (sH.trans a) (sF.trans c) d⟩
 |false=>
  rw[if_neg Bool.false_ne_true]at e2⊢
  cases e2
  exact k H1 F1 own1 sH sF s1
theorem l_or{f g:FT}(h:Zw Z (orF f g) σ H R):tOr (Zw Z f) (Zw Z g) σ H R:=by
 obtain⟨F,δ,own,b,δ',s,e,k⟩:=h
 obtain⟨⟨c,δ1⟩,e1,e2⟩:=Option.bind_eq_some_iff.mp e
 refine⟨F,δ,own,c,δ1,s,e1,fun H1 F1 own1 sH sF s1=>?_⟩
 cases c with
 |true=>
  rw[if_pos rfl]at e2⊢
  cases e2
  exact k H1 F1 own1 sH sF s1
 |false=>
  rw[if_neg Bool.false_ne_true]at e2⊢
  exact⟨F1,δ1,own1,b,δ',s1,e2,fun H2 F2 own2 a c d=>k H2 F2 own2 (sH.trans a) (sF.trans c) d⟩
theorem Zx6{f:FT}(h:Zw Z (notF f) σ H R):tNot (Zw Z f) σ H R:=by
 obtain⟨F,δ,own,b,δ',s,e,k⟩:=h
 obtain⟨⟨c,δ1⟩,e1,e2⟩:=Option.bind_eq_some_iff.mp e
 cases e2
 exact⟨F,δ,own,c,δ1,s,e1,k⟩
@[simp] noncomputable def andV(f g:FE):FE:=fun δ=>(Z6 f δ).bind fun p=>if p.1=true then g p.2 else some (.tmp (.fz (.bl false)),p.2)
@[simp] noncomputable def orV(f g:FE):FE:=fun δ=>(Z6 f δ).bind fun p=>if p.1=true then some (.tmp (.fz (.bl true)),p.2)else g p.2
@[simp] noncomputable def notV(f:FE):FE:=fun δ=>(Z6 f δ).bind fun p=>some (.tmp (.fz (.bl (!p.1))),p.2)
theorem Zx7{F:Hp}{own:Nat→Zl}{b:Bool}:Zlu Z F H σ own (.tmp (.fz (.bl b))) (.bl b):=⟨[],.fz (.bl b)⟩
theorem Zu3{f g:FE}(h:Zb Z (andV f g) σ H Q):Ztv (Zb Z f) (Zb Z g) σ H Q:=by
 obtain⟨F,δ,own,rv,δ',s,e,k⟩:=h
 obtain⟨⟨c,δ1⟩,e1,e2⟩:=Option.bind_eq_some_iff.mp e
 refine Zly ⟨F,δ,own,c,δ1,s,e1,fun H1 F1 own1 sH sF s1=>?_⟩
 cases c with
 |true=>
  rw[if_pos rfl]at e2⊢
  exact⟨F1,δ1,own1,rv,δ',s1,e2,fun v H2 F2 own2 a c d=>k v H2 F2 own2 (sH.trans a) (sF.trans c) d⟩
 |false=>
  rw[if_neg Bool.false_ne_true]at e2⊢
  cases e2
  exact k _ H1 F1 own1 sH sF s1 Zx7
@[simp] noncomputable def ifF(t:FT)(f g:FE):FE:=fun δ=>(t δ).bind fun p=>if p.1=true then f p.2 else g p.2
theorem l_if{t:FT}{f g:FE}(h:Zb Z (ifF t f g) σ H Q):tIf (Zw Z t) (Zb Z f) (Zb Z g) σ H Q:=by
 obtain⟨F,δ,own,rv,δ',s,e,k⟩:=h
 obtain⟨⟨c,δ1⟩,e1,e2⟩:=Option.bind_eq_some_iff.mp e
 refine⟨F,δ,own,c,δ1,s,e1,fun H1 F1 own1 sH sF s1=>?_⟩
 cases c with
 |true=>
  rw[if_pos rfl]at e2⊢
  exact⟨F1,δ1,own1,rv,δ',s1,e2,fun v H2 F2 own2 a c d=>k v H2 F2 own2 (sH.trans a) (sF.trans c) d⟩
 |false=>
  rw[if_neg Bool.false_ne_true]at e2⊢
  exact⟨F1,δ1,own1,rv,δ',s1,e2,fun v H2 F2 own2 a c d=>k v H2 F2 own2 (sH.trans a) (sF.trans c) d⟩
@[simp] noncomputable def Z0j(g g':D→D→Option SV)(fa fb fc:FE):FE:=fun δ=>(fa δ).bind fun p=>(fb p.2).bind fun q=>(rdv p.1 q.2).bind fun x=>(rdv q.1 q.2).bind fun y=>(g x y).bind fun
 | .fz (.bl true)=>(fc q.2).bind fun r=>(rdv q.1 r.2).bind fun y'=>(rdv r.1 r.2).bind fun z=>(g' y' z).bind fun sv=>some (.tmp sv,r.2)
 | .fz (.bl false)=>some (.tmp (.fz (.bl false)),q.2)
 |_=>none
end
inductive Fl where
 |nx (δ:DSt)|bk (δ:DSt)|ct (δ:DSt)|rt (sv:SV)|ex (e:Exn) (δ:DSt)
noncomputable abbrev FS:=DSt→Option Fl
noncomputable def Zja(Z:Ent K)(F:Hp)(D:Ends):Fl→Prop
 | .nx δ=>∀σ' H' F' own',Same F F'→SR Z F' H' σ' δ own'→D.nx σ' H'
 | .bk δ=>∀σ' H' F' own',Same F F'→SR Z F' H' σ' δ own'→D.bk σ' H'
 | .ct δ=>∀σ' H' F' own',Same F F'→SR Z F' H' σ' δ own'→D.ct σ' H'
 | .rt sv=>∀v H' F' ns,Same F F'→Same F' H'→(∀(b:Addr) (o:HO),F' b=some o→Z.f b=some o∨Z.h b=none)→Same Z.h H'→Shape K F' sv v ns→(adr ns).Nodup→
   (∀p∈ns,F' p.1=none∧Z.h p.1=none∧H' p.1=some p.2)→D.rt v H'
 | .ex x δ=>∀σ' H' F' own' cls od,Same F F'→SR Z F' H' σ' δ own'→Zi8 K F' x cls od→Z.x cls od σ' H'
theorem Zja.mono{Z:Ent K}{F F':Hp}{D:Ends}(s:Same F F'):∀{fl:Fl},Zja Z F D fl→Zja Z F' D fl
 | .nx _,h=>fun σ' H' F2 own' a b=>h σ' H' F2 own' (s.trans a) b
 | .bk _,h=>fun σ' H' F2 own' a b=>h σ' H' F2 own' (s.trans a) b
 | .ct _,h=>fun σ' H' F2 own' a b=>h σ' H' F2 own' (s.trans a) b
 | .rt _,h=>fun v H' F2 ns a=>h v H' F2 ns (s.trans a)
 | .ex _ _,h=>fun σ' H' F2 own' cls od a=>h σ' H' F2 own' cls od (s.trans a)
noncomputable def Zy(Z:Ent K)(f:FS):TS:=fun D σ H=>∃F δ own fl,SR Z F H σ δ own∧f δ=some fl∧Zja Z F D fl
section
variable{Z:Ent K}{H:Hp}{σ:St}{E:Ends}
@[simp] noncomputable def Zch:FS:=fun δ=>some (.nx δ)
@[simp] noncomputable def Z0k:FS:=fun δ=>some (.bk δ)
@[simp] noncomputable def Z1z:FS:=fun δ=>some (.ct δ)
theorem Zu4(h:Zy Z Zch E σ H):Zty E σ H:=by
 obtain⟨F,δ,own,fl,s,e,k⟩:=h
 cases e
 exact k σ H F own (Same.refl F) s
@[simp] noncomputable def seqF(f g:FS):FS:=fun δ=>(f δ).bind fun
 | .nx δ'=>g δ'
 |fl=>some fl
theorem Zx8{f g:FS}(h:Zy Z (seqF f g) E σ H):tSeq (Zy Z f) (Zy Z g) E σ H:=by
 obtain⟨F,δ,own,fl,s,e,k⟩:=h
 obtain⟨f1,e1,e2⟩:=Option.bind_eq_some_iff.mp e
 refine⟨F,δ,own,f1,s,e1,?_⟩
 cases f1 with
 |nx δ1=>exact fun σ' H' F' own' sF s'=>⟨F',δ1,own',fl,s',e2,k.mono sF⟩
 |bk δ1=>cases e2;exact k
 |ct δ1=>cases e2;exact k
 |rt sv=>cases e2;exact k
 |ex x δ1=>cases e2;exact k
@[simp] noncomputable def ifS(t:FT)(f g:FS):FS:=fun δ=>(t δ).bind fun p=>if p.1=true then f p.2 else g p.2
theorem Zx9{t:FT}{f g:FS}(h:Zy Z (ifS t f g) E σ H):tIfS (Zw Z t) (Zy Z f) (Zy Z g) E σ H:=by
 obtain⟨F,δ,own,fl,s,e,k⟩:=h
 obtain⟨⟨c,δ1⟩,e1,e2⟩:=Option.bind_eq_some_iff.mp e
 refine⟨F,δ,own,c,δ1,s,e1,fun H1 F1 own1 sH sF s1=>?_⟩
 cases c with
 |true=>rw[if_pos rfl]at e2⊢;exact⟨F1,δ1,own1,fl,s1,e2,k.mono sF⟩
 |false=>rw[if_neg Bool.false_ne_true]at e2⊢;exact⟨F1,δ1,own1,fl,s1,e2,k.mono sF⟩
@[simp] noncomputable def Z10(fe:FE):FS:=fun δ=>(fe δ).bind fun p=>some (.nx p.2)
@[simp] noncomputable def outF:RV→DSt→Option SV
 | .tmp sv,_=>some sv
 | .bw i,δ=>δ[i]?.join
@[simp] noncomputable def retF(fe:FE):FS:=fun δ=>(fe δ).bind fun p=>(outF p.1 p.2).bind fun sv=>some (.rt sv)
theorem Zya{fe:FE}(h:Zy Z (retF fe) E σ H):tRet (Zb Z fe) E σ H:=by
 obtain⟨F,δ,own,fl,s,e,k⟩:=h
 obtain⟨⟨rv,δ1⟩,e1,e2⟩:=Option.bind_eq_some_iff.mp e
 obtain⟨sv,e3,e4⟩:=Option.bind_eq_some_iff.mp e2
 cases e4
 refine⟨F,δ,own,rv,δ1,s,e1,fun v H1 F1 own1 sH sF s1 r1=>?_⟩
 cases rv with
 |tmp sw=>
  cases e3
  obtain⟨ns,t⟩:=r1
  exact k v H1 F1 ns sF s1.le s1.fro s1.old t.sh t.nd t.ok
 |bw i=>
  obtain⟨w,h1,h2⟩:=s1.at' i sv (Zb0 e3)
  have r1':σ[i]? =some (some v):=r1
  rw[r1']at h1;cases h1
  exact k v H1 F1 (own1 i) sF s1.le s1.fro s1.old h2 (s1.nod i) (s1.ok i)
@[simp] noncomputable def retN:FS:=fun δ=>some (.rt (.fz .non))
@[simp] noncomputable def stow(i:Nat):RV→DSt→Option DSt
 | .tmp sv,δ=>if i<δ.length then some (δ.set i (some sv))else none
 | .bw j,δ=>(frz (.bw j) δ).bind fun p=>if i<p.2.length then some (p.2.set i (some (.fz p.1)))else none
theorem SR.stow{F:Hp}{δ δ':DSt}{own:Nat→Zl}{i:Nat}{rv:RV}{v:V}(s:SR Z F H σ δ own)(r:Zlu Z F H σ own rv v)(e:DL.stow i rv δ=some δ'):∃F' own',Same F F'∧SR Z F' H (σ.set i (some v)) δ' own':=by
 cases rv with
 |tmp sv=>
  obtain⟨ns,t⟩:=r
  have e:(if i<δ.length then some (δ.set i (some sv))else none)=some δ':=e
  by_cases hi:i<δ.length
  ·rw[if_pos hi]at e;cases e
   exact⟨F,_,Same.refl F,s.store t (by rw[s.len];exact hi)⟩
  ·rw[if_neg hi]at e;cases e
 |bw j=>
  obtain⟨⟨d,δ1⟩,e1,e2⟩:=Option.bind_eq_some_iff.mp e
  obtain⟨F1,own1,sF,s1,r1⟩:=s.frzR (rv:=.bw j) (v:=v) r e1
  by_cases hi:i<δ1.length
  ·rw[if_pos hi]at e2;cases e2
   exact⟨F1,_,sF,s1.store (.fz r1) (by rw[s1.len];exact hi)⟩
  ·rw[if_neg hi]at e2;cases e2
@[simp] noncomputable def setF(i:Nat)(fe:FE):FS:=fun δ=>(fe δ).bind fun p=>(stow i p.1 p.2).bind fun δ'=>some (.nx δ')
theorem Zu5{i:Nat}{fe:FE}(h:Zy Z (setF i fe) E σ H):tAsg (Zb Z fe) (Zj9 i) E σ H:=by
 obtain⟨F,δ,own,fl,s,e,k⟩:=h
 obtain⟨⟨rv,δ1⟩,e1,e2⟩:=Option.bind_eq_some_iff.mp e
 obtain⟨δ2,e3,e4⟩:=Option.bind_eq_some_iff.mp e2
 cases e4
 refine⟨F,δ,own,rv,δ1,s,e1,fun v H1 F1 own1 sH sF s1 r1=>?_⟩
 obtain⟨F2,own2,sF2,s2⟩:=s1.stow r1 e3
 exact k _ H1 F2 own2 (sF.trans sF2) s2
set_option genInjectivity false in
structure FG where
 run:D→DSt→Option DSt
 tch:List Nat
set_option genInjectivity false in
structure FGs where
 run:List D→DSt→Option DSt
 tch:List Nat
noncomputable def Zdx(Z:Ent K)(g:FG):TG:=fun v σ H Q=>∃F δ own d δ',SR Z F H σ δ own∧Rep K F d v∧g.run d δ=some δ'∧∀σ' own',SR Z F H σ' δ' own'→(∀j:Nat,j∉g.tch→σ'[j]? =σ[j]?)→Q σ' H
noncomputable def Zdp(Z:Ent K)(g:FGs):TGs:=fun vs σ H Q=>∃F δ own ds δ',SR Z F H σ δ own∧Reps K F ds vs∧g.run ds δ=some δ'∧∀σ' own',SR Z F H σ' δ' own'→(∀j:Nat,j∉g.tch→σ'[j]? =σ[j]?)→Q σ' H
noncomputable def Zg(i:Nat):FG:=⟨fun d δ=>if i<δ.length then some (δ.set i (some (.fz d)))else none,[i]⟩
theorem Zrj{i:Nat}{v:V}{Q:St→Hp→Prop}(h:Zdx Z (Zg i) v σ H Q):Zj9 i v σ H Q:=by
 obtain⟨F,δ,own,d,δ',s,r,e,k⟩:=h
 have e:(if i<δ.length then some (δ.set i (some (.fz d)))else none)=some δ':=e
 by_cases hi:i<δ.length
 ·rw[if_pos hi]at e;cases e
  exact k _ _ (s.store (.fz r) (by rw[s.len];exact hi)) fun j hj=>List.getElem?_set_ne fun z=>hj (by rw[z];exact List.mem_cons_self)
 ·rw[if_neg hi]at e;cases e
noncomputable def Zdc:FGs:=⟨fun ds δ=>match ds with
 | []=>some δ
 |_=>none,[]⟩
noncomputable def Z3(g:FG)(r:FGs):FGs:=⟨fun ds δ=>match ds with
 |d::t=>(g.run d δ).bind fun δ1=>r.run t δ1
 | []=>none,g.tch++r.tch⟩
@[simp] theorem Zu6(i:Nat)(d:D)(δ:DSt):(Zg i).run d δ=if i<δ.length then some (δ.set i (some (.fz d)))else none:=rfl
@[simp] theorem Zw2(δ:DSt):Zdc.run [] δ=some δ:=rfl
@[simp] theorem Zu7(g:FG)(r:FGs)(d:D)(t:List D)(δ:DSt):(Z3 g r).run (d::t) δ=(g.run d δ).bind fun δ1=>r.run t δ1:=rfl
theorem Zu8{vs:List V}{Q:St→Hp→Prop}(h:Zdp Z Zdc vs σ H Q):gNil vs σ H Q:=by
 obtain⟨F,δ,own,ds,δ',s,r,e,k⟩:=h
 cases r with
 |nil=>cases e;exact⟨rfl,k σ own s fun _ _=>rfl⟩
 |cons h t=>cases e
theorem Zrk{g:FG}{r:FGs}{vs:List V}{Q:St→Hp→Prop}(h:Zdp Z (Z3 g r) vs σ H Q):Zt1 (Zdx Z g) (Zdp Z r) vs σ H Q:=by
 obtain⟨F,δ,own,ds,δ',s,rr,e,k⟩:=h
 cases rr with
 |nil=>cases e
 |cons h t=>
  obtain⟨δ1,e1,e2⟩:=Option.bind_eq_some_iff.mp e
  exact⟨_,_,rfl,F,δ,own,_,δ1,s,h,e1,fun σ1 own1 s1 t1=>⟨F,δ1,own1,_,δ',s1,t,e2,fun σ2 own2 s2 t2=>k σ2 own2 s2 fun j hj=>(t2 j fun z=>hj (List.mem_append_right _ z)).trans (t1 j fun z=>hj (List.mem_append_left _ z))⟩⟩
noncomputable def Zcw(n:Nat)(g:FGs):FG:=⟨fun d δ=>match d with
 | .tup xs=>if xs.length=n then g.run xs δ else none
 |_=>none,g.tch⟩
@[simp] theorem Zw3(n:Nat)(g:FGs)(xs:List D)(δ:DSt):(Zcw n g).run (.tup xs) δ=if xs.length=n then g.run xs δ else none:=rfl
theorem Zu9{n:Nat}{g:FGs}{v:V}{Q:St→Hp→Prop}(h:Zdx Z (Zcw n g) v σ H Q):gTup K n (Zdp Z g) v σ H Q:=by
 obtain⟨F,δ,own,d,δ',s,r,e,k⟩:=h
 dsimp only[Zcw]at e
 split at e
 ·rename_i xs
  by_cases hn:xs.length=n
  ·rw[if_pos hn]at e
   cases r with
   |tup h r=>exact⟨_,_,rfl,Zaw s.le (Zez h),by rw[←r.length];exact hn,F,δ,own,_,δ',s,r,e,k⟩
  ·rw[if_neg hn]at e;cases e
 ·cases e
@[simp] noncomputable def Zh8(g:FG)(fe:FE):FS:=fun δ=>(fe δ).bind fun p=>(frz p.1 p.2).bind fun q=>(g.run q.1 q.2).bind fun δ'=>some (.nx δ')
theorem Zod{g:FG}{fe:FE}(h:Zy Z (Zh8 g fe) E σ H):tAsg (Zb Z fe) (Zdx Z g) E σ H:=by
 obtain⟨F,δ,own,fl,s,e,k⟩:=h
 obtain⟨⟨rv,δ1⟩,e1,e2⟩:=Option.bind_eq_some_iff.mp e
 obtain⟨⟨d,δ2⟩,e3,e4⟩:=Option.bind_eq_some_iff.mp e2
 obtain⟨δ3,e5,e6⟩:=Option.bind_eq_some_iff.mp e4
 cases e6
 refine⟨F,δ,own,rv,δ1,s,e1,fun v H1 F1 own1 sH sF s1 r1=>?_⟩
 obtain⟨F2,sF2,s2,r2⟩:=s1.settleR r1
 obtain⟨F3,own3,sF3,s3,r3⟩:=s2.frzR r2 e3
 exact⟨F3,δ2,own3,d,δ3,s3,r3,e5,fun σ' own' s' _=>k σ' H1 F3 own' (sF.trans (sF2.trans sF3)) s'⟩
@[simp] noncomputable def forD(tg:FG)(body:FS):List D→DSt→Option Fl
 | [],δ=>some (.nx δ)
 |d::ds,δ=>(tg.run d δ).bind fun δ1=>(body δ1).bind fun
  | .nx δ2=>forD tg body ds δ2
  | .ct δ2=>forD tg body ds δ2
  | .bk δ2=>some (.nx δ2)
  | .rt sv=>some (.rt sv)
  | .ex x δ2=>some (.ex x δ2)
noncomputable def Zec(K:PySem.W.Frag)(J:It)(F:Hp)(ds:List D):Prop:=∀F' H,Same F F'→Same F' H→∀i:Nat,
 (∀d,ds[i]? =some d→J.go i H∧∀x H',J.yld i H x H'→Same H H'∧∃ns,(adr ns).Nodup∧(∀p∈ns,H p.1=none∧H' p.1=some p.2)∧Rep K (addL F' ns) d x)∧(ds.length≤i→J.stop i H)
noncomputable def Zci(Z:Ent K)(f:FD):TI:=fun σ H R=>∃F δ own ds δ',SR Z F H σ δ own∧f δ=some (ds,δ')∧
 ∀J H' F' own',Same H H'→Same F F'→SR Z F' H' σ δ' own'→Zec K J F' ds→R J H'
@[simp] noncomputable def forF(fi:FD)(tg:FG)(body:FS):FS:=fun δ=>(fi δ).bind fun p=>forD tg body p.1 p.2
theorem SR.fresh{F H':Hp}{δ:DSt}{own:Nat→Zl}{ns:Zl}(s:SR Z F H σ δ own)(sm:Same H H')(nd:(adr ns).Nodup)(h:∀p∈ns,H p.1=none∧H' p.1=some p.2):Same F (addL F ns)∧SR Z (addL F ns) H' σ δ own:=by
 refine⟨Zax fun p hp=>s.le.free (h p hp).1,(s.grow sm).addF nd (fun p hp=>s.le.free (h p hp).1) (fun p hp=>(h p hp).2) (fun p hp=>s.old.free (h p hp).1) fun i p q hp hq e=>?_⟩
 have z:=(s.ok i q hq).2.2
 rw[←e,(h p hp).1]at z;cases z
theorem Zyb{fi:FD}{tg:FG}{body:FS}(h:Zy Z (forF fi tg body) E σ H):tFor (Zci Z fi) (Zdx Z tg) (Zy Z body) E σ H:=by
 obtain⟨F,δ,own,fl,s,e,k⟩:=h
 obtain⟨⟨ds,δ1⟩,e1,e2⟩:=Option.bind_eq_some_iff.mp e
 refine⟨F,δ,own,ds,δ1,s,e1,fun J H1 F1 own1 sH sF s1 yl=>?_⟩
 refine⟨fun i m σ H=>m=ds.length- i∧i≤ds.length∧∃F δ own,Same F1 F∧SR Z F H σ δ own∧forD tg body (ds.drop i) δ=some fl,⟨ds.length,by simp,Nat.zero_le _,F1,δ1,own1,Same.refl F1,s1,e2⟩,?_⟩
 rintro i m σ' H' ⟨rfl,hi,F2,δ2,own2,sF2,s2,ef⟩
 by_cases hlt:i<ds.length
 ·have hd:ds[i]? =some ds[i]:=by simp[hlt]
  obtain⟨go,yy⟩:=(yl F2 H' sF2 s2.le i).1 _ hd
  rw[List.drop_eq_getElem_cons hlt]at ef
  obtain⟨δ3,e3,e4⟩:=Option.bind_eq_some_iff.mp ef
  obtain⟨f1,e5,e6⟩:=Option.bind_eq_some_iff.mp e4
  refine .inr ⟨go,fun σ4 H4=>∃F δ own,Same F1 F∧SR Z F H4 σ4 δ own∧forD tg body (ds.drop (i+1)) δ=some fl,fun σ4 H4 ⟨F4,δ4,own4,a,b,c⟩=>⟨ds.length- (i+1),by omega,rfl,hlt,F4,δ4,own4,a,b,c⟩,fun x H3 hy=>?_⟩
  obtain⟨sm,ns,nd,hn,rp⟩:=yy x H3 hy
  obtain⟨sFn,sn⟩:=s2.fresh sm nd hn
  refine⟨addL F2 ns,δ2,own2,_,δ3,sn,rp,e3,fun σ5 own5 s5 _=>⟨addL F2 ns,δ3,own5,f1,s5,e5,?_⟩⟩
  cases f1 with
  |nx δ6=>exact fun σ6 H6 F6 own6 a b=>⟨F6,δ6,own6,sF2.trans (sFn.trans a),b,e6⟩
  |ct δ6=>exact fun σ6 H6 F6 own6 a b=>⟨F6,δ6,own6,sF2.trans (sFn.trans a),b,e6⟩
  |bk δ6=>
   cases e6
   exact fun σ6 H6 F6 own6 a b=>k σ6 H6 F6 own6 (sF.trans (sF2.trans (sFn.trans a))) b
  |rt sv=>
   cases e6
   exact fun v H6 F6 ns6 a=>k v H6 F6 ns6 (sF.trans (sF2.trans (sFn.trans a)))
  |ex x δ6=>
   cases e6
   exact fun σ6 H6 F6 own6 cls od a=>k σ6 H6 F6 own6 cls od (sF.trans (sF2.trans (sFn.trans a)))
 ·have hz:i=ds.length:=by omega
  subst hz
  rw[List.drop_length]at ef
  cases ef
  exact .inl ⟨(yl F2 H' sF2 s2.le _).2 (Nat.le_refl _),k σ' H' F2 own2 (sF.trans sF2) s2⟩
noncomputable def Zb1(t:FT)(body:FS):Nat→DSt→Option Fl
 |0,_=>none
 |n+1,δ=>(t δ).bind fun p=>if p.1=true then(body p.2).bind (fun
  | .nx δ2=>Zb1 t body n δ2
  | .ct δ2=>Zb1 t body n δ2
  | .bk δ2=>some (.nx δ2)
  | .rt sv=>some (.rt sv)
  | .ex x δ2=>some (.ex x δ2))else some (.nx p.2)
theorem Zrl{n:Nat}{t:FT}{body:FS}(h:Zy Z (Zb1 t body n) E σ H):Zpq (Zw Z t) (Zy Z body) E σ H:=by
 obtain⟨F,δ,own,fl,s,e,k⟩:=h
 refine⟨fun m σ H=>∃F2 δ own,Same F F2∧SR Z F2 H σ δ own∧Zb1 t body m δ=some fl,⟨n,F,δ,own,Same.refl F,s,e⟩,?_⟩
 rintro m σ1 H1 ⟨F1,δ1,own1,sF1,s1,e1⟩
 cases m with
 |zero=>cases e1
 |succ m=>
  obtain⟨⟨c,δ2⟩,e2,e3⟩:=Option.bind_eq_some_iff.mp e1
  refine⟨F1,δ1,own1,c,δ2,s1,e2,fun H2 F2 own2 sH sF2 s2=>?_⟩
  cases c with
  |false=>
   rw[if_neg Bool.false_ne_true]at e3⊢
   cases e3
   exact k σ1 H2 F2 own2 (sF1.trans sF2) s2
  |true=>
   rw[if_pos rfl]at e3⊢
   obtain⟨f1,e4,e5⟩:=Option.bind_eq_some_iff.mp e3
   refine⟨fun σ' H'=>∃F2 δ own,Same F F2∧SR Z F2 H' σ' δ own∧Zb1 t body m δ=some fl,fun σ' H' w=>⟨m,Nat.lt_succ_self m,w⟩,F2,δ2,own2,f1,s2,e4,?_⟩
   cases f1 with
   |nx δ6=>exact fun σ6 H6 F6 own6 a b=>⟨F6,δ6,own6,sF1.trans (sF2.trans a),b,e5⟩
   |ct δ6=>exact fun σ6 H6 F6 own6 a b=>⟨F6,δ6,own6,sF1.trans (sF2.trans a),b,e5⟩
   |bk δ6=>
    cases e5
    exact fun σ6 H6 F6 own6 a b=>k σ6 H6 F6 own6 (sF1.trans (sF2.trans a)) b
   |rt sv=>
    cases e5
    exact fun v H6 F6 ns6 a=>k v H6 F6 ns6 (sF1.trans (sF2.trans a))
   |ex x δ6=>
    cases e5
    exact fun σ6 H6 F6 own6 cls od a=>k σ6 H6 F6 own6 cls od (sF1.trans (sF2.trans a))
@[simp] noncomputable def seqI(fe:FE):FD:=fun δ=>(fe δ).bind fun p=>(frz p.1 p.2).bind fun q=>match q.1 with
 | .lst xs=>some (xs,q.2)
 | .tup xs=>some (xs,q.2)
 |_=>none
noncomputable def iSeq(K:PySem.W.Frag)(tl:TE):TI:=fun σ H R=>tl σ H fun x H1=>(∃a,x= .ref a∧(∃xs,SqL K H1 a xs)∧R (Itl K a) H1)∨(∃a,x= .ref a∧(∃xs,SqT K H1 a xs)∧R (Itt K a) H1)
theorem Zh9{F:Hp}{a:Addr}{xs:List D}{vs:List V}(h:SqL K F a vs)(r:Reps K F xs vs):Zec K (Itl K a) F xs:=fun F' H sF sH i=>by
 have q:SqL K H a vs:=Zav (sF.trans sH) h
 refine⟨fun d hd=>?_,fun hl=>⟨vs,q,by rw[←r.length];exact hl⟩⟩
 obtain⟨v,h1,h2⟩:=r.get hd
 refine⟨⟨vs,v,q,h1⟩,fun x H' zq9=>?_⟩
 obtain⟨e1,e2⟩:=zq9
 subst e1
 have e3:=e2 vs q
 rw[h1]at e3;cases e3
 exact⟨Same.refl _,[],List.nodup_nil,fun _ h=>(nomatch h),h2.mono sF⟩
theorem Zkj{F:Hp}{a:Addr}{xs:List D}{vs:List V}(h:SqT K F a vs)(r:Reps K F xs vs):Zec K (Itt K a) F xs:=fun F' H sF sH i=>by
 have q:SqT K H a vs:=Zaw (sF.trans sH) h
 refine⟨fun d hd=>?_,fun hl=>⟨vs,q,by rw[←r.length];exact hl⟩⟩
 obtain⟨v,h1,h2⟩:=r.get hd
 refine⟨⟨vs,v,q,h1⟩,fun x H' zq9=>?_⟩
 obtain⟨e1,e2⟩:=zq9
 subst e1
 have e3:=e2 vs q
 rw[h1]at e3;cases e3
 exact⟨Same.refl _,[],List.nodup_nil,fun _ h=>(nomatch h),h2.mono sF⟩
noncomputable def Zia(lo:Int)(n:Nat):List D:=(List.range n).map fun i=>.int (lo+(i:Nat))
theorem Zgy{lo:Int}{n:Nat}{F:Hp}:Zec K (Itr lo n) F (Zia lo n):=fun F' H sF sH i=>by
 have hl:(Zia lo n).length=n:=by unfold Zia;rw[List.length_map,List.length_range]
 refine⟨fun d hd=>?_,fun h=>by rw[hl]at h;exact h⟩
 have hi:i<n:=by
  have:=(List.getElem?_eq_some_iff.mp hd).1
  rw[hl]at this;exact this
 refine⟨hi,fun x H' zq9=>?_⟩
 obtain⟨e1,e2⟩:=zq9
 subst e1 e2
 unfold Zia at hd
 rw[List.getElem?_map,List.getElem?_range hi]at hd
 cases hd
 exact⟨Same.refl _,[],List.nodup_nil,fun _ h=>(nomatch h),.int _⟩
noncomputable def rngP(j:Int):Prop:=-(2^62)≤j∧j<2^62
theorem Zrm{j:Int}(h0:0≤j)(h:j≤16777216):rngP j:=⟨by omega,by omega⟩
theorem Zfu{n:Nat}(h:n≤16777216):rngP (n:Int):=Zrm (by omega) (by omega)
open Classical in
@[simp] noncomputable def rngI(fa:FA):FD:=fun δ=>(fa δ).bind fun p=>match Zco p.1 p.2 with
 |some [.int j]=>if rngP j then some (Zia 0 j.toNat,p.2)else none
 |_=>none
theorem Zva{fa:FA}{R:It→Hp→Prop}(h:Zci Z (rngI fa) σ H R):Zt5 (Zdb Z fa) σ H R:=by
 obtain⟨F,δ,own,ds,δ',s,e,k⟩:=h
 obtain⟨⟨rvs,δ1⟩,e1,e2⟩:=Option.bind_eq_some_iff.mp e
 refine⟨F,δ,own,rvs,δ1,s,e1,fun vs H1 F1 own1 sH sF s1 r1=>?_⟩
 dsimp only at e2
 split at e2
 ·rename_i j hj
  have rn:=s1.rdAll r1 hj
  cases rn with
  |cons h t=>
   cases t
   by_cases hb:rngP j
   ·rw[if_pos hb]at e2
    cases e2
    exact⟨j,by rw[h.int],hb.1,hb.2,k _ H1 F1 own1 sH sF s1 Zgy⟩
   ·rw[if_neg hb]at e2;cases e2
 ·cases e2
@[simp] noncomputable def appF(i:Nat)(fe:FE):FS:=fun δ=>match δ[i]? with
 |some (some (.ol _))=>(fe δ).bind fun p=>(frz p.1 p.2).bind fun q=>match q.2[i]? with
  |some (some (.ol xs))=>if xs.length<PySem.sizeLine then some (.nx (q.2.set i (some (.ol (xs++[q.1])))))else none
  |_=>none
 |_=>none
theorem Zcx{F:Hp}{xs:List D}{v:V}{ns:Zl}(h:Shape K F (.ol xs) v ns):∃a vs,v= .ref a∧ns=[(a,.lst vs)]∧Reps K F xs vs:=by
 cases h with
 |ol r=>exact⟨_,_,rfl,rfl,r⟩
theorem Zyc{i:Nat}{fe:FE}(h:Zy Z (appF i fe) E σ H):Ztz (tBM K "list" Zd7 (tVar i) (Zn0 (Zb Z fe) tNil)) E σ H:=by
 obtain⟨F,δ,own,fl,s,e,k⟩:=h
 unfold appF at e
 split at e
 ·rename_i xs0 hx0
  obtain⟨⟨rv,δ1⟩,e1,e2⟩:=Option.bind_eq_some_iff.mp e
  obtain⟨⟨d,δ2⟩,e3,e4⟩:=Option.bind_eq_some_iff.mp e2
  obtain⟨v,hv,sh⟩:=s.at' i _ hx0
  obtain⟨a,vs0,ev,en,r0⟩:=Zcx sh
  refine⟨v,hv,?_,F,δ,own,rv,δ1,s,e1,fun y H1 F1 own1 sH sF s1 r1=>?_⟩
  ·subst ev
   exact .inl ⟨rfl,vs0,.inl (.inl (s.ok i (a,.lst vs0) (by rw[en];exact List.mem_cons_self)).2.2)⟩
  obtain⟨F2,sF2,s2,r2⟩:=s1.settleR r1
  obtain⟨F3,own3,sF3,s3,r3⟩:=s2.frzR r2 e3
  dsimp only at e4
  split at e4
  ·rename_i xs hx
   by_cases hz:xs.length<PySem.sizeLine
   ·rw[if_pos hz]at e4
    cases e4
    obtain⟨v',hv',sh'⟩:=s3.at' i _ hx
    rw[hv]at hv';cases hv'
    obtain⟨b,vs,eb,en',r'⟩:=Zcx sh'
    have mb:(b,HO.lst vs)∈own3 i:=by rw[en'];exact List.mem_cons_self
    subst eb
    refine⟨b,vs,y,rfl,rfl,(s3.ok i _ mb).2.2,by rw[←r'.length];exact hz,?_⟩
    exact k σ _ F3 _ (sF.trans (sF2.trans sF3)) (s3.change (sv':=.ol (xs++[d])) (o':=.lst (vs++[y])) (ns':=[(b,.lst (vs++[y]))]) hx hv mb (.ol (r'.snoc r3)) (fun p hp=>.inl (List.mem_singleton.mp hp)) nd1)
   ·rw[if_neg hz]at e4;cases e4
  ·cases e4
 ·cases e
end
@[simp] noncomputable def Zgz(n:Nat)(ds:List D):DSt:=ds.map (fun d=>some (.fz d))++List.replicate (n- ds.length) none
theorem Zjb{N:List Str}{F H:Hp}{ds:List D}{vs:List V}(le:Same F H)(r:Reps K F ds vs):SR (ent H F:Ent K) F H (L2.Zdv N vs) (Zgz N.length ds) fun _=>[]:=by
 have hl:=r.length
 refine⟨le,fun b o e=>.inl e,Same.refl H,?_,fun i sv e=>?_,fun _=>List.nodup_nil,fun _ _ h=>(nomatch h),fun _ _ _ _ _ h=>(nomatch h)⟩
 ·unfold L2.Zdv Zgz
  rw[List.length_append,List.length_append,List.length_map,List.length_map,List.length_replicate,List.length_replicate,hl]
 ·unfold Zgz at e
  by_cases hi:i<ds.length
  ·rw[List.getElem?_append_left (by simpa using hi),List.getElem?_map]at e
   cases hd:ds[i]? with
   |none=>rw[hd]at e;cases e
   |some d=>
    rw[hd]at e;cases e
    obtain⟨v,h1,h2⟩:=r.get hd
    refine⟨v,?_,.fz h2⟩
    unfold L2.Zdv
    rw[List.getElem?_append_left (by rw[List.length_map];omega),List.getElem?_map,h1]
    rfl
  ·rw[List.getElem?_append_right (by simpa using hi),List.getElem?_replicate]at e
   split at e<;> cases e
theorem Zoe{n:Nat}{g:List D→Option SV}{vs:List V}{H:Hp}{Q:VK}{E:XK}(h:spOf K n g vs H Q E):vs.length=n:=by
 obtain⟨F,ds,sv,le,r,hn,e,k⟩:=h
 rw[←r.length];exact hn
end DL
namespace DL
open PySem L2
variable{K:PySem.W.Frag}
noncomputable def xG(K:PySem.W.Frag)(g:FG):TG:=fun v σ H Q=>∃Z:Ent K,Zdx Z g v σ H Q
noncomputable def xT(K:PySem.W.Frag)(f:FT):TT:=fun σ H Q=>∃Z:Ent K,Zw Z f σ H Q
noncomputable def xE(K:PySem.W.Frag)(f:FE):TE:=fun σ H Q=>∃Z:Ent K,Zb Z f σ H Q
noncomputable def Zg0:FT:=fun δ=>some (true,δ)
@[simp] theorem Zw4(δ:DSt):Zg0 δ=some (true,δ):=rfl
@[simp] noncomputable def caps(src:List BSrc):List RV:=src.filterMap fun
 | .cap j=>some (.bw j)
 |_=>none
@[simp] noncomputable def Zlz(δ:DSt):BSrc→Option SV
 | .own=>none
 | .cap j=>match δ[j]?.join with
  |some (.fz d)=>some (.fz d)
  |_=>none
 | .acc=>some (.ol [])
@[simp] noncomputable def bD(src:List BSrc)(δ:DSt):DSt:=src.map (Zlz δ)
@[simp] noncomputable def Zed:BSrc→Option SV→Option SV
 | .own,_=>none
 |_,o=>o
@[simp] noncomputable def Zdd:List BSrc→DSt→DSt
 |b::r,o::t=>Zed b o::Zdd r t
 |_,t=>t
@[simp] noncomputable def Zde(src:List BSrc)(k:Nat)(g:FG)(tt:FT)(te:FE):List D→DSt→Option DSt
 | [],δ=>some δ
 |d::ds,δ=>(g.run d δ).bind fun δ1=>(tt δ1).bind fun p=>if p.1=true then(te p.2).bind fun q=>(frz q.1 q.2).bind fun r=>match r.2[k]? with
   |some (some (.ol zs))=>if zs.length<PySem.sizeLine then Zde src k g tt te ds (Zdd src (r.2.set k (some (.ol (zs++[r.1])))))else none
   |_=>none
  else Zde src k g tt te ds (Zdd src p.2)
@[simp] noncomputable def Zib(src:List BSrc)(k:Nat)(fi:FD)(g:FG)(tt:FT)(te:FE):FE:=fun δ=>(fi δ).bind fun p=>(frzAll (caps src) p.2).bind fun c=>(Zde src k g tt te p.1 (bD src c.2)).bind fun δb=>match δb[k]? with
 |some (some (.ol ys))=>some (.tmp (.ol ys),c.2)
 |_=>none
theorem Zee:∀(src:List BSrc) (δ:DSt),(Zdd src δ).length=δ.length
 | [],t=>by unfold Zdd;rfl
 |_::_,[]=>by unfold Zdd;rfl
 |b::r,o::t=>by show(Zed b o::Zdd r t).length=_;rw[List.length_cons,List.length_cons,Zee r t]
theorem Zef:∀{src:List BSrc} {δ:DSt} {i:Nat} {sv:SV},(Zdd src δ)[i]? =some (some sv)→δ[i]? =some (some sv)
 | [],_,_,_,h=>h
 |_::_,[],_,_,h=>h
 |b::r,o::t,0,sv,h=>by
  have h:some (Zed b o)=some (some sv):=h
  cases b with
  |own=>cases h
  |cap j=>exact h
  |acc=>exact h
 |b::r,o::t,i+1,sv,h=>by
  have h:(Zdd r t)[i]? =some (some sv):=h
  show t[i]? =_
  exact Zef h
section
variable{Z:Ent K}{F H:Hp}{σ:St}{δ δ':DSt}{own:Nat→Zl}
theorem SR.forget(s:SR Z F H σ δ own)(hl:δ'.length=δ.length)(h:∀(i:Nat) (sv:SV),δ'[i]? =some (some sv)→δ[i]? =some (some sv)):SR Z F H σ δ' own:=
 ⟨s.le,s.fro,s.old,s.len.trans hl.symm,fun i sv e=>s.at' i sv (h i sv e),s.nod,s.ok,s.sep⟩
theorem SR.caps:∀{rvs:List RV} {ds:List D} {δ δ':DSt} {F:Hp} {own:Nat→Zl},(∀rv∈rvs,∃j,rv= .bw j)→SR Z F H σ δ own→DL.frzAll rvs δ=some (ds,δ')→∃F1 own1,Same F F1∧SR Z F1 H σ δ' own1
 | [],_,_,_,F,own,_,s,e=>by cases e;exact⟨F,own,Same.refl F,s⟩
 |rv::r,_,_,_,F,own,hb,s,e=>by
  obtain⟨⟨d,δ1⟩,e1,e2⟩:=Option.bind_eq_some_iff.mp e
  obtain⟨⟨ds,δ2⟩,e3,e4⟩:=Option.bind_eq_some_iff.mp e2
  cases e4
  obtain⟨j,rfl⟩:=hb rv List.mem_cons_self
  obtain⟨sv,e5,e6⟩:=Option.bind_eq_some_iff.mp e1
  cases e6
  obtain⟨F1,v,sF,_,_,s1⟩:=s.freeze (Zb0 e5)
  obtain⟨F2,own2,sF2,s2⟩:=SR.caps (fun rv h=>hb rv (List.mem_cons_of_mem _ h)) s1 e3
  exact⟨F2,own2,sF.trans sF2,s2⟩
theorem SR.after{F3 H3:Hp}(s2:SR Z F H σ δ own)(sH3:Same H H3)(sF3:Same F F3)(le3:Same F3 H3)(fro3:∀(b:Addr) (o:HO),F3 b=some o→F b=some o∨H b=none):SR Z F3 H3 σ δ own:=by
 refine⟨le3,fun b o e=>?_,s2.old.trans sH3,s2.len,fun i sw ei=>?_,s2.nod,fun i p hp=>?_,s2.sep⟩
 ·rcases fro3 b o e with z|z
  ·exact s2.fro b o z
  ·exact .inr (s2.old.free z)
 ·obtain⟨w,h1,h2⟩:=s2.at' i sw ei
  exact⟨w,h1,h2.mono sF3⟩
 ·obtain⟨a,b,c⟩:=s2.ok i p hp
  refine⟨?_,b,sH3 _ _ c⟩
  cases z:F3 p.1 with
  |none=>rfl
  |some u=>
   rcases fro3 _ u z with y|y
   ·rw[a]at y;cases y
   ·rw[c]at y;cases y
end
structure SrcOk(src:List BSrc)(k:Nat):Prop where
 acc:src[k]? =some .acc
 uni:∀i:Nat,src[i]? =some .acc→i=k
theorem Zof{Z:Ent K}{F H:Hp}{σ:St}{δ:DSt}{own:Nat→Zl}{src:List BSrc}{k:Nat}{acc:Addr}(S:SrcOk src k)(s:SR Z F H σ δ own)(ha:H acc=none):
  SR (ent H F:Ent K) F (upd H acc (.lst [])) (bSt src σ acc) (bD src δ) (fun i=>if i=k then[(acc,.lst [])]else[]):=by
 have mem:∀{i:Nat} {p:Addr×HO},p∈(if i=k then[(acc,HO.lst [])]else[])→i=k∧p=(acc,.lst []):=fun{i p} h=>by
  by_cases hi:i=k
  ·rw[if_pos hi]at h;exact⟨hi,List.mem_singleton.mp h⟩
  ·rw[if_neg hi]at h;exact nomatch h
 refine⟨s.le.trans (Zcd ha),fun b o e=>.inl e,Zcd ha,by unfold bSt bD;rw[List.length_map,List.length_map],fun i sv e=>?_,fun i=>?_,fun i p hp=>?_,fun i j p q hij hp hq=>?_⟩
 ·unfold bD at e
  rw[List.getElem?_map]at e
  cases hq:src[i]? with
  |none=>rw[hq]at e;cases e
  |some q=>
   rw[hq]at e
   have e:Zlz δ q=some sv:=Option.some.inj e
   cases q with
   |own=>cases e
   |acc=>
    cases e
    have hi:=S.uni i hq
    refine⟨.ref acc,by unfold bSt;rw[List.getElem?_map,hq];rfl,?_⟩
    show Shape K F (.ol []) (.ref acc) (if i=k then[(acc,.lst [])]else[])
    rw[if_pos hi]
    exact .ol .nil
   |cap j=>
    have hi:i≠k:=fun z=>by rw[z,S.acc]at hq;cases hq
    unfold Zlz at e
    dsimp only at e
    split at e
    ·rename_i d hd
     cases e
     obtain⟨v,h1,h2⟩:=s.at' j _ (Zb0 hd)
     refine⟨v,by unfold bSt;rw[List.getElem?_map,hq];show some (σ[j]?).join=_;rw[h1];rfl,?_⟩
     show Shape K F (.fz d) v (if i=k then[(acc,.lst [])]else[])
     rw[if_neg hi]
     exact .fz (Zcv h2)
    ·cases e
 ·show(adr (if i=k then[(acc,HO.lst [])]else[])).Nodup
  by_cases hi:i=k
  ·rw[if_pos hi];exact nd1
  ·rw[if_neg hi];exact List.nodup_nil
 ·obtain⟨_,rfl⟩:=mem hp
  exact⟨s.le.free ha,ha,Z9⟩
 ·obtain⟨z,_⟩:=mem hp
  obtain⟨y,_⟩:=mem hq
  exact absurd (z.trans y.symm) hij
theorem Zpx{Z:Ent K}{H:Hp}{σ:St}{Q:VK}{src:List BSrc}{k:Nat}{fi:FD}{g:FG}{tt:FT}{te:FE}(S:SrcOk src k)(hk:k∉g.tch)(h:Zb Z (Zib src k fi g tt te) σ H Q):
  Zre src (Zci Z fi) (xG K g) (xT K tt) (xE K te) σ H Q:=by
 obtain⟨F,δ,own,rv,δ',s,e,k0⟩:=h
 obtain⟨⟨ds,δ1⟩,e1,e2⟩:=Option.bind_eq_some_iff.mp e
 obtain⟨⟨cs,δ2⟩,e3,e4⟩:=Option.bind_eq_some_iff.mp e2
 obtain⟨δf,e5,e6⟩:=Option.bind_eq_some_iff.mp e4
 refine⟨F,δ,own,ds,δ1,s,e1,fun J H1 F1 own1 sH sF s1 yl acc ha=>?_⟩
 obtain⟨F2,own2,sF2,s2⟩:=s1.caps (fun rv hr=>by
  unfold DL.caps at hr
  obtain⟨b,_,hb⟩:=List.mem_filterMap.mp hr
  cases b with
  |own=>cases hb
  |acc=>cases hb
  |cap j=>cases hb;exact⟨j,rfl⟩) e3
 have s3:=Zof S s2 ha
 have hacc0:(bSt src σ acc)[k]? =some (some (.ref acc)):=by unfold bSt;rw[List.getElem?_map,S.acc];rfl
 refine⟨fun i m σ' H=>m=ds.length- i∧i≤ds.length∧σ'[k]? =some (some (.ref acc))∧∃F δ own,Same F2 F∧SR (ent H1 F2:Ent K) F H σ' δ own∧Zde src k g tt te (ds.drop i) δ=some δf,
  ⟨ds.length,by simp,Nat.zero_le _,hacc0,F2,_,_,Same.refl F2,s3,e5⟩,?_⟩
 rintro i m σ4 H4 ⟨rfl,hi,hacc,F4,δ4,own4,sF4,s4,ef⟩
 by_cases hlt:i<ds.length
 ·have hd:ds[i]? =some ds[i]:=by simp[hlt]
  obtain⟨go,yy⟩:=(yl F4 H4 (sF2.trans sF4) s4.le i).1 _ hd
  rw[List.drop_eq_getElem_cons hlt]at ef
  obtain⟨δ5,e7,e8⟩:=Option.bind_eq_some_iff.mp ef
  obtain⟨⟨b,δ6⟩,e9,e10⟩:=Option.bind_eq_some_iff.mp e8
  refine .inr ⟨go,fun x H5 hy=>?_⟩
  obtain⟨sm,ns,nd,hn,rp⟩:=yy x H5 hy
  obtain⟨sFn,sn⟩:=s4.fresh sm nd hn
  refine⟨(ent H1 F2:Ent K),addL F4 ns,δ4,own4,_,δ5,sn,rp,e7,fun σ6 own6 s6 t6=>⟨(ent H1 F2:Ent K),addL F4 ns,δ5,own6,b,δ6,s6,e9,fun H7 F7 own7 sH7 sF7 s7=>?_⟩⟩
  have hacc6:σ6[k]? =some (some (.ref acc)):=(t6 k hk).trans hacc
  cases b with
  |false=>
   dsimp only
   rw[if_neg Bool.false_ne_true]at e10⊢
   exact⟨ds.length- (i+1),by omega,rfl,hlt,hacc6,F7,_,own7,sF4.trans (sFn.trans sF7),s7.forget (Zee src δ6) (fun j sv hj=>Zef hj),e10⟩
  |true=>
   dsimp only
   rw[if_pos rfl]at e10⊢
   obtain⟨⟨rv8,δ8⟩,e11,e12⟩:=Option.bind_eq_some_iff.mp e10
   obtain⟨⟨d9,δ9⟩,e13,e14⟩:=Option.bind_eq_some_iff.mp e12
   refine⟨(ent H1 F2:Ent K),F7,δ6,own7,rv8,δ8,s7,e11,fun y H8 F8 own8 sH8 sF8 s8 r8=>?_⟩
   obtain⟨F9,sF9,s9,r9⟩:=s8.settleR r8
   obtain⟨F10,own10,sF10,s10,r10⟩:=s9.frzR r9 e13
   dsimp only at e14
   split at e14
   ·rename_i zs hz
    by_cases hzl:zs.length<PySem.sizeLine
    ·rw[if_pos hzl]at e14
     obtain⟨v',hv',sh'⟩:=s10.at' k _ hz
     rw[hacc6]at hv';cases hv'
     obtain⟨b,vs,eb,en',r'⟩:=Zcx sh'
     cases eb
     have mb:(acc,HO.lst vs)∈own10 k:=by rw[en'];exact List.mem_cons_self
     refine⟨acc,vs,y,rfl,rfl,(s10.ok k _ mb).2.2,by rw[←r'.length];exact hzl,?_⟩
     have s11:=s10.change (sv':=.ol (zs++[d9])) (o':=.lst (vs++[y])) (ns':=[(acc,.lst (vs++[y]))]) hz hacc6 mb (.ol (r'.snoc r10)) (fun p hp=>.inl (List.mem_singleton.mp hp)) nd1
     exact⟨ds.length- (i+1),by omega,rfl,hlt,hacc6,F10,_,_,sF4.trans (sFn.trans (sF7.trans (sF8.trans (sF9.trans sF10)))),s11.forget (Zee src _) (fun j sv hj=>Zef hj),e14⟩
    ·rw[if_neg hzl]at e14;cases e14
   ·cases e14
 ·have hz:i=ds.length:=by omega
  subst hz
  rw[List.drop_length]at ef
  cases ef
  refine .inl ⟨(yl F4 H4 (sF2.trans sF4) s4.le _).2 (Nat.le_refl _),?_⟩
  dsimp only at e6
  split at e6
  ·rename_i ys hys
   cases e6
   obtain⟨v',hv',sh'⟩:=s4.at' k _ hys
   rw[hacc]at hv';cases hv'
   obtain⟨b,vs,eb,en',r'⟩:=Zcx sh'
   cases eb
   have mb:(acc,HO.lst vs)∈own4 k:=by rw[en'];exact List.mem_cons_self
   obtain⟨o1,o2,o3⟩:=s4.ok k _ mb
   refine k0 (.ref acc) H4 F4 own2 (sH.trans s4.old) (sF.trans (sF2.trans sF4)) (s2.after s4.old sF4 s4.le fun b o e=>s4.fro b o e) ⟨[(acc,.lst vs)],.ol r',nd1,fun p hp=>?_,fun j p q hp hq e=>?_⟩
   ·obtain rfl:=List.mem_singleton.mp hp
    exact⟨o1,s2.old.free ha,o3⟩
   ·obtain rfl:=List.mem_singleton.mp hp
    have z:=(s2.ok j q hq).2.2
    have e':acc=q.1:=e
    rw[←e',ha]at z;cases z
  ·cases e6
end DL
namespace DL
open PySem PySem.Spec PyProof.Rows L2
variable{K:PySem.W.Frag}
variable{Z:Ent K}
@[simp] noncomputable def intI(f:Int→Int→D):D→D→Option SV
 | .int i,.int j=>some (.fz (f i j))
 |_,_=>none
@[simp] noncomputable def intC(C:Int→Int→Bool)(f:Int→Int→D):D→D→Option SV
 | .int i,.int j=>if C i j=true then some (.fz (f i j))else none
 |_,_=>none
theorem Zog{g:Int→Int→V}{f:Int→Int→D}(hr:∀F i j,Rep K F (f i j) (g i j)):Zaf Z (rI0 g) (intI f):=by
 intro F H σ δ own x y d1 d2 sv Q s r1 r2 e k
 unfold intI at e
 split at e
 ·cases e
  exact⟨_,_,r1.int,r2.int,k.fz s (hr _ _ _)⟩
 ·cases e
theorem p_rI{C:Int→Int→Prop}{c:Int→Int→Bool}{g:Int→Int→V}{f:Int→Int→D}(hc:∀i j,c i j=true→C i j)(hr:∀F i j,Rep K F (f i j) (g i j)):Zaf Z (rI C g) (intC c f):=by
 intro F H σ δ own x y d1 d2 sv Q s r1 r2 e k
 unfold intC at e
 split at e
 ·split at e
  ·rename_i hcc
   cases e
   exact⟨_,_,r1.int,r2.int,hc _ _ hcc,k.fz s (hr _ _ _)⟩
  ·cases e
 ·cases e
@[simp] noncomputable def subD:D→D→Option SV:=intI fun i j=>.int (i- j)
noncomputable def cMul(i j:Int):Bool:=(decide (-(2^64)<i)&&decide (i<2^64))|| (decide (-(2^64)<j)&&decide (j<2^64))
@[simp] noncomputable def mulD:D→D→Option SV:=intC cMul fun i j=>.int (i*j)
@[simp] noncomputable def cDiv(i j:Int):Bool:=decide (0<j)&&decide (j<1073741824)
@[simp] noncomputable def Zic:D→D→Option SV:=intC cDiv fun i j=>.int (i / j)
@[simp] noncomputable def cMod(i j:Int):Bool:=decide (0<j)
@[simp] noncomputable def modD:D→D→Option SV:=intC cMod fun i j=>.int (i % j)
@[simp] noncomputable def cPow(i j:Int):Bool:=decide (0≤j)&&decide (j≤1000000)&&decide (i.natAbs<2^64)
@[simp] noncomputable def powD:D→D→Option SV:=intC cPow fun i j=>.int (i^j.toNat)
theorem Zyd:Zaf Z (rI0 fun i j=>V.int (i- j)) subD:=Zog fun _ _ _=>.int _
theorem Zye:Zaf Z (rI CMul fun i j=>V.int (i*j)) mulD:=p_rI (fun i j h=>by
 unfold cMul at h
 simp only[Bool.or_eq_true,Bool.and_eq_true,decide_eq_true_eq]at h
 exact h) fun _ _ _=>.int _
theorem Zvb:Zaf Z (rI CDiv fun i j=>V.int (i / j)) Zic:=p_rI (fun i j h=>by
 unfold cDiv at h
 simp only[Bool.and_eq_true,decide_eq_true_eq]at h
 exact h) fun _ _ _=>.int _
theorem Zyf:Zaf Z (rI (fun _ j=>0<j) fun i j=>V.int (i % j)) modD:=p_rI (fun i j h=>by
 unfold cMod at h
 simp only[decide_eq_true_eq]at h
 exact h) fun _ _ _=>.int _
@[simp] noncomputable def ltD:D→D→Option SV:=intI fun i j=>.bl (decide (i<j))
@[simp] noncomputable def leD:D→D→Option SV:=intI fun i j=>.bl (decide (i≤j))
@[simp] noncomputable def gtD:D→D→Option SV:=intI fun i j=>.bl (decide (j<i))
@[simp] noncomputable def geD:D→D→Option SV:=intI fun i j=>.bl (decide (j≤i))
theorem p_lt:Zaf Z (rI0 fun i j=>V.bl (decide (i<j))) ltD:=Zog fun _ _ _=>.bl _
theorem p_gt:Zaf Z (rI0 fun i j=>V.bl (decide (j<i))) gtD:=Zog fun _ _ _=>.bl _
theorem p_ge:Zaf Z (rI0 fun i j=>V.bl (decide (j≤i))) geD:=Zog fun _ _ _=>.bl _
noncomputable def rStr:R2:=fun x y H Q=>∃i j,x= .str i∧y= .str j∧i.length+j.length≤PySem.sizeLine∧Q (.str (i++j)) H
noncomputable def Zvc(K:PySem.W.Frag):R2:=fun x y H Q=>∃l b xs zs,x= .ref l∧y= .ref b∧SqL K H l xs∧SqL K H b zs∧xs.length+zs.length≤PySem.sizeLine∧∀p,H p=none→Q (.ref p) (upd H p (.lst (xs++zs)))
theorem Zrn{X:Cx}:OpR X (binaryOp .Add) (Zvc X.K):=by
 intro pins s σ H x y v u Q I rx ry h
 obtain⟨l,b,xs,zs,rfl,rfl,hH,hB,hz,q⟩:=h
 cases rx
 cases ry
 obtain⟨its,r,pl,z⟩:=I.list hH
 obtain⟨its2,r2,pl2,z2⟩:=I.list hB
 have hl:=r.length
 have hl2:=r2.length
 obtain⟨⟨cls,dd,data,sl⟩,ho,hc,n,hd⟩:=pl.isList
 obtain⟨⟨cls2,dd2,data2,sl2⟩,ho2,hc2,n2,hd2⟩:=pl2.isList
 simp only at hc hd hc2 hd2
 subst hc hd hc2 hd2
 have ea:its.toArray++its2.toArray=(its++its2).toArray:=by simp
 refine concat_meets ⟨_,ho,rfl⟩ ⟨_,ho2,rfl⟩ noFill_list_add seq_list_add PySem.F.slot_list_add PySem.F.entry_list_add (PySem.F.args_list_add_2 _ _) (list_addW l b its.toArray its2.toArray n n2 dd dd2 sl sl2 (by rw[List.size_toArray,List.size_toArray];omega)) ⟨ho,ho2,?_⟩
 rw[ea]
 exact⟨.ref _,_,I.lnew (t':=s.toks) (r.append r2) (by rw[List.length_append];omega),rfl,q _ I.fresh⟩
noncomputable def Zvd(K:PySem.W.Frag):R2:=fun x y H Q=>rI0 (fun i j=>V.int (i+j)) x y H Q∨(rStr x y H Q∨Zvc K x y H Q)
theorem Zro{X:Cx}:OpR X (binaryOp .Add) (Zvd X.K):=Zt7.or (Zkc.or Zrn)
@[simp] noncomputable def addD:D→D→Option SV
 | .int i,.int j=>some (.fz (.int (i+j)))
 | .str x,.str y=>if x.length+y.length≤PySem.sizeLine then some (.fz (.str (x++y)))else none
 | .lst xs,.lst ys=>if xs.length+ys.length≤PySem.sizeLine then some (.ol (xs++ys))else none
 |_,_=>none
theorem Zyg:Zaf Z (Zvd K) addD:=by
 intro F H σ δ own x y d1 d2 sv Q s r1 r2 e k
 unfold addD at e
 split at e
 ·cases e
  exact .inl ⟨_,_,r1.int,r2.int,k.fz s (.int _)⟩
 ·split at e
  ·rename_i hz
   cases e
   exact .inr (.inl ⟨_,_,r1.str,r2.str,hz,k.fz s (.str _)⟩)
  ·cases e
 ·split at e
  ·rename_i hz
   cases e
   obtain⟨a,vs,ex,ha,ra⟩:=r1.lst s.le
   obtain⟨b,us,ey,hb,rb⟩:=r2.lst s.le
   exact .inr (.inr ⟨a,b,vs,us,ex,ey,ha,hb,by rw[←ra.length,←rb.length];exact hz,fun p hp=>k.lst s (ra.append rb) hp⟩)
  ·cases e
 ·cases e
@[simp] noncomputable def eqS:D→D→Option Bool
 | .non,.non=>some true
 | .non,.int _=>some false
 | .int _,.non=>some false
 | .non,.bl _=>some false
 | .bl _,.non=>some false
 | .non,.str _=>some false
 | .str _,.non=>some false
 | .int i,.int j=>some (decide (i=j))
 | .bl i,.bl j=>some (decide (i=j))
 | .str i,.str j=>some (decide (i=j))
 | .int _,.str _=>some false
 | .str _,.int _=>some false
 | .bl _,.str _=>some false
 | .str _,.bl _=>some false
 |_,_=>none
theorem Zpy{F H:Hp}{d1 d2:D}{x y:V}{b:Bool}(e:eqS d1 d2=some b)(r1:RepN K F H d1 x)(r2:RepN K F H d2 y):scal x y=true∧b=decide (x=y):=by
 unfold eqS at e
 split at e<;> cases e
 ·rw[r1.non,r2.non];exact⟨rfl,by simp⟩
 ·rw[r1.non,r2.int];exact⟨rfl,by simp⟩
 ·rw[r1.int,r2.non];exact⟨rfl,by simp⟩
 ·rw[r1.non,r2.bl];exact⟨rfl,by simp⟩
 ·rw[r1.bl,r2.non];exact⟨rfl,by simp⟩
 ·rw[r1.non,r2.str];exact⟨rfl,by simp⟩
 ·rw[r1.str,r2.non];exact⟨rfl,by simp⟩
 ·rw[r1.int,r2.int];exact⟨rfl,by simp⟩
 ·rw[r1.bl,r2.bl];exact⟨rfl,by simp⟩
 ·rw[r1.str,r2.str];exact⟨rfl,by simp⟩
 ·rw[r1.int,r2.str];exact⟨rfl,by simp⟩
 ·rw[r1.str,r2.int];exact⟨rfl,by simp⟩
 ·rw[r1.bl,r2.str];exact⟨rfl,by simp⟩
 ·rw[r1.str,r2.bl];exact⟨rfl,by simp⟩
@[simp] noncomputable def eqD(d1 d2:D):Option SV:=(eqS d1 d2).bind fun b=>some (.fz (.bl b))
@[simp] noncomputable def neD(d1 d2:D):Option SV:=(eqS d1 d2).bind fun b=>some (.fz (.bl (!b)))
theorem p_eq:Zaf Z rEq eqD:=by
 intro F H σ δ own x y d1 d2 sv Q s r1 r2 e k
 obtain⟨b,e1,e2⟩:=Option.bind_eq_some_iff.mp e
 cases e2
 obtain⟨h1,h2⟩:=Zpy e1 r1 r2
 subst h2
 exact⟨h1,k.fz s (.bl _)⟩
theorem p_ne:Zaf Z rNe neD:=by
 intro F H σ δ own x y d1 d2 sv Q s r1 r2 e k
 obtain⟨b,e1,e2⟩:=Option.bind_eq_some_iff.mp e
 cases e2
 obtain⟨h1,h2⟩:=Zpy e1 r1 r2
 subst h2
 exact⟨h1,k.fz s (.bl _)⟩
@[simp] noncomputable def D.isNon:D→Bool
 | .non=>true
 |_=>false
theorem Zoh{F H:Hp}{d:D}{x:V}(r:RepN K F H d x):decide (x= .non)=d.isNon:=by
 obtain⟨sv,ns,e,n,sh,hp⟩:=r
 subst e
 cases sh with
 |fz r=>cases r<;> rfl
 |_=>rfl
@[simp] noncomputable def isND(d1 d2:D):Option SV:=if d2.isNon=true then some (.fz (.bl d1.isNon))else none
@[simp] noncomputable def Z11(d1 d2:D):Option SV:=if d2.isNon=true then some (.fz (.bl (!d1.isNon)))else none
theorem Zoi{d:D}(h:d.isNon=true):d= .non:=by cases d<;> first|rfl|cases h
theorem Zyh:Zaf Z (fun x y H Q=>y=V.non∧Q (.bl (decide (x= .non))) H) isND:=by
 intro F H σ δ own x y d1 d2 sv Q s r1 r2 e k
 unfold isND at e
 split at e
 ·rename_i h
  cases e
  have:=Zoi h
  subst this
  exact⟨r2.non,by rw[Zoh r1];exact k.fz s (.bl _)⟩
 ·cases e
theorem Reps.atI{F:Hp}{xs:List D}{vs:List V}{i:Int}{d:D}(r:Reps K F xs vs)(e:L2.atI xs i=some d):∃v,L2.atI vs i=some v∧Rep K F d v:=by
 unfold L2.atI at e⊢
 obtain⟨j,e1,e2⟩:=Option.bind_eq_some_iff.mp e
 obtain⟨v,h1,h2⟩:=r.get e2
 exact⟨v,Option.bind_eq_some_iff.mpr ⟨j,by rw[←r.length];exact e1,h1⟩,h2⟩
@[simp] noncomputable def ixD:D→D→Option SV
 | .lst xs,.int i=>(L2.atI xs i).bind fun d=>some (.fz d)
 | .tup xs,.int i=>(L2.atI xs i).bind fun d=>some (.fz d)
 | .str z,.int i=>if z.length≤PySem.sizeLine then(L2.atI z.cps.toList i).bind fun c=>some (.fz (.str ⟨#[c]⟩))else none
 |_,_=>none
theorem p_ix:Zaf Z (rIx K) ixD:=by
 intro F H σ δ own x y d1 d2 sv Q s r1 r2 e k
 unfold ixD at e
 split at e
 ·obtain⟨d,e1,e2⟩:=Option.bind_eq_some_iff.mp e
  cases e2
  obtain⟨a,vs,ex,ha,ra⟩:=r1.lst s.le
  obtain⟨v,h1,h2⟩:=ra.atI e1
  exact .inl ⟨a,vs,_,v,ex,r2.int,ha,h1,k.fz s h2⟩
 ·obtain⟨d,e1,e2⟩:=Option.bind_eq_some_iff.mp e
  cases e2
  obtain⟨a,vs,ex,ha,ra⟩:=r1.tup s.le
  obtain⟨v,h1,h2⟩:=ra.atI e1
  exact .inr (.inl ⟨a,vs,_,v,ex,r2.int,ha,h1,k.fz s h2⟩)
 ·split at e
  ·rename_i hz
   obtain⟨c,e1,e2⟩:=Option.bind_eq_some_iff.mp e
   cases e2
   exact .inr (.inr ⟨_,_,c,r1.str,r2.int,hz,e1,k.fz s (.str _)⟩)
  ·cases e
 ·cases e
noncomputable abbrev FO:=DSt→Option (Option Int×DSt)
noncomputable def Ze0(Z:Ent K)(f:FO):TO:=fun σ H Q=>∃F δ own o δ',SR Z F H σ δ own∧f δ=some (o,δ')∧∀H' F' own',Same H H'→Same F F'→SR Z F' H' σ δ' own'→Q o H'
@[simp] noncomputable def Zdq:FO:=fun δ=>some (none,δ)
@[simp] noncomputable def Ze1(fe:FE):FO:=fun δ=>(fe δ).bind fun p=>match p.1 with
 | .tmp (.fz (.int i))=>some (some i,p.2)
 |_=>none
section
variable{H:Hp}{σ:L2.St}{Q:VK}{R:Option Int→Hp→Prop}
theorem Zoj(h:Ze0 Z Zdq σ H R):Zlj σ H R:=by
 obtain⟨F,δ,own,o,δ',s,e,k⟩:=h
 cases e
 exact k H F own (Same.refl H) (Same.refl F) s
theorem Zve{fe:FE}(h:Ze0 Z (Ze1 fe) σ H R):Zul (Zb Z fe) σ H R:=by
 obtain⟨F,δ,own,b,δ',s,e,k⟩:=h
 obtain⟨⟨rv,δ1⟩,e1,e2⟩:=Option.bind_eq_some_iff.mp e
 refine⟨F,δ,own,rv,δ1,s,e1,fun v H1 F1 own1 sH sF s1 r1=>?_⟩
 dsimp only at e2
 split at e2
 ·cases e2
  obtain⟨ns,t⟩:=r1
  cases Zcv t.sh
  exact⟨_,rfl,k H1 F1 own1 sH sF s1⟩
 ·cases e2
@[simp] noncomputable def slF(g:D→Option Int→Option Int→Option SV)(fe:FE)(fl fh:FO):FE:=fun δ=>(fe δ).bind fun p=>(fl p.2).bind fun l=>(fh l.2).bind fun h=>(rdv p.1 h.2).bind fun d=>(g d l.1 h.1).bind fun sv=>some (.tmp sv,h.2)
noncomputable def Zrp(Z:Ent K)(r:V→Option Int→Option Int→Hp→VK→Prop)(g:D→Option Int→Option Int→Option SV):Prop:=
 ∀(F H:Hp) (σ:L2.St) (δ:DSt) (own:Nat→Zl) (x:V) (d:D) (lo hi:Option Int) (sv:SV) (Q:VK),SR Z F H σ δ own→RepN K F H d x→g d lo hi=some sv→Fin Z F H σ δ own sv Q→r x lo hi H Q
theorem l_sl{r:V→Option Int→Option Int→Hp→VK→Prop}{g:D→Option Int→Option Int→Option SV}{fe:FE}{fl fh:FO}(hg:Zrp Z r g)(h:Zb Z (slF g fe fl fh) σ H Q):tSl r (Zb Z fe) (Ze0 Z fl) (Ze0 Z fh) σ H Q:=by
 obtain⟨F,δ,own,rv,δ',s,e,k⟩:=h
 obtain⟨⟨rv1,δ1⟩,e1,e⟩:=Option.bind_eq_some_iff.mp e
 obtain⟨⟨lo,δ2⟩,e2,e⟩:=Option.bind_eq_some_iff.mp e
 obtain⟨⟨hi,δ3⟩,e3,e⟩:=Option.bind_eq_some_iff.mp e
 obtain⟨d,e4,e⟩:=Option.bind_eq_some_iff.mp e
 obtain⟨sv,e5,e⟩:=Option.bind_eq_some_iff.mp e
 cases e
 refine⟨F,δ,own,rv1,δ1,s,e1,fun v H1 F1 own1 sH1 sF1 s1 r1=>?_⟩
 obtain⟨F1',sF1',s1',r1'⟩:=s1.settleR r1
 refine⟨F1',δ1,own1,lo,δ2,s1',e2,fun H2 F2 own2 sH2 sF2 s2=>⟨F2,δ2,own2,hi,δ3,s2,e3,fun H3 F3 own3 sH3 sF3 s3=>?_⟩⟩
 exact hg F3 H3 σ δ3 own3 v d lo hi sv Q s3 (s3.rd (r1'.mono (sF2.trans sF3)) e4) e5 fun q H4 F4 ns sH4 sF4 s4 t4=>
  k q H4 F4 own3 (sH1.trans (sH2.trans (sH3.trans sH4))) (sF1.trans (sF1'.trans (sF2.trans (sF3.trans sF4)))) s4 ⟨ns,t4⟩
end
noncomputable def cutD(xs:List D)(lo hi:Option Int):List D:=(xs.drop (HT.sIx xs.length 0 lo)).take (HT.sIx xs.length xs.length hi- HT.sIx xs.length 0 lo)
theorem Reps.cut{F:Hp}{xs:List D}{vs:List V}(r:Reps K F xs vs)(lo hi:Option Int):Reps K F (cutD xs lo hi) (cutV vs lo hi):=by
 unfold cutD cutV
 rw[r.length]
 exact(r.drop _).take _
noncomputable def rSlS:V→Option Int→Option Int→Hp→VK→Prop:=fun x lo hi H Q=>∃z,x= .str z∧z.length≤PySem.sizeLine∧Q (.str (Txt.slice z lo hi)) H
theorem Zvf{X:Cx}:SlR X rSlS:=by
 intro pins s σ H x v vl vu lo hi sl Q I rx hs pl pu h
 obtain⟨z,rfl,hz,q⟩:=h
 obtain⟨t,rfl⟩:=rx
 refine⟨"str",_,F.slot_str_getitem.lookup,typeIs_str _ _ _,?_⟩
 have fin:∀(t':Tok) (k:Nat),EP X pins σ Q (.str (Txt.slice z lo hi) t') {s with toks:=k}:=fun t' k=>⟨.str (Txt.slice z lo hi),H,I.tok _,⟨_,rfl⟩,q⟩
 cases pl with
 |none=>cases pu with
  |none=>exact wpAny_getItem_str_slice (l:=none) (u:=none) (st:=none) hs rfl (post_val_or_str ⟨Nat.le_trans (Txt.slice_le z _ _) hz,fin⟩)
  |int j tj=>exact wpAny_getItem_str_slice (l:=none) (u:=some (j,tj)) (st:=none) hs rfl (post_val_or_str ⟨Nat.le_trans (Txt.slice_le z _ _) hz,fin⟩)
 |int i ti=>cases pu with
  |none=>exact wpAny_getItem_str_slice (l:=some (i,ti)) (u:=none) (st:=none) hs rfl (post_val_or_str ⟨Nat.le_trans (Txt.slice_le z _ _) hz,fin⟩)
  |int j tj=>exact wpAny_getItem_str_slice (l:=some (i,ti)) (u:=some (j,tj)) (st:=none) hs rfl (post_val_or_str ⟨Nat.le_trans (Txt.slice_le z _ _) hz,fin⟩)
@[simp] noncomputable def slD:D→Option Int→Option Int→Option SV
 | .lst xs,lo,hi=>some (.ol (cutD xs lo hi))
 | .str z,lo,hi=>if z.length≤PySem.sizeLine then some (.fz (.str (Txt.slice z lo hi)))else none
 |_,_,_=>none
theorem p_sl:Zrp Z (fun x lo hi H Q=>rSlL K x lo hi H Q∨rSlS x lo hi H Q) slD:=by
 intro F H σ δ own x d lo hi sv Q s r1 e k
 unfold slD at e
 split at e
 ·cases e
  obtain⟨a,vs,ex,ha,ra⟩:=r1.lst s.le
  exact .inl ⟨a,vs,ex,ha,fun p hp=>k.lst s (ra.cut _ _) hp⟩
 ·split at e
  ·rename_i hz
   cases e
   exact .inr ⟨_,r1.str,hz,k.fz s (.str _)⟩
  ·cases e
 ·cases e
end DL
namespace L2
open PySem PySem.Spec PyProof.Rows
section
variable{X:Cx}{tg:Expr}
noncomputable def Ite(K:PySem.W.Frag)(a:Addr):It:=
 ⟨fun i H=>∃xs x,SqL K H a xs∧xs[i]? =some x,fun i H x H'=>∃p v,x= .ref p∧H p=none∧H'=upd H p (.tup [.int (i:Nat),v])∧∀xs,SqL K H a xs→xs[i]? =some v,fun i H=>∃xs,SqL K H a xs∧xs.length≤i⟩
theorem Inv.turnedT{pins:List (Addr×Obj)}{σ:L2.St}{H:Hp}{s:Shared}{h':Heap}{t':Nat}{e it T:Addr}{xs:List V}{its:List Value}(I:Inv X pins σ H s)(k:∀b o,b≠e→b≠it→s.heap.get? b=some o→h'.get? b=some o)
  (f1:FpOk X pins H e) (f2:FpOk X pins H it) (hT:T=s.heap.objs.size) (ht:IsTup h' T its.toArray) (rv:Vals xs its) (hz:xs.length≤sizeLine) (he:∃o,h'.get? e=some o) (hi:∃o,h'.get? it=some o):
  Inv X pins σ (upd H T (.tup xs)) {s with heap:=h',toks:=t'}:=by
 have hTn:H T=none:=by rw[hT];exact I.hok.fresh (Nat.le_refl _)
 have neT:∀b o,s.heap.get? b=some o→b≠T:=fun b o q=>by rw[hT];exact Nat.ne_of_lt (Heap.lt_size q)
 have ntr:∀b u,H b=some u→b≠e∧b≠it:=fun b u q=>⟨(fun z=>by rw[z,f1.1]at q;cases q),(fun z=>by rw[z,f2.1]at q;cases q)⟩
 refine I.step (g':=s.gens) (d':=s.drawn) (ch:=[e,it]) (fun b hb=>?_) (fun b o _ _ hc q _=>k b o (fun z=>hc (by simp[z])) (fun z=>hc (by simp[z])) q)
  (fun b o _ _ hc q _=>⟨o.slots,k b o (fun z=>hc (by simp[z])) (fun z=>hc (by simp[z])) q⟩) (fun b o _ q n=>by rw[Zs (neT b o q)];exact n)
  (fun b o hc q=>⟨o,k b o (fun z=>hc (by simp[z])) (fun z=>hc (by simp[z])) q⟩) (fun b ys q=>by rw[Zs (Z4 q hTn)];exact q) (fun b o u q=>by rw[Zs (Z4 q hTn)];exact q)
  (fun b ps q=>⟨#[],by rw[Zs (Z4 q hTn),q];simp⟩) (fun m hm=>?_) (fun b u q=>?_) I.bare
 ·have hb':b=e∨b=it:=by simpa using hb
  rcases hb' with z|z
  ·subst z;obtain⟨_,a1,_,a3,a4,a5⟩:=f1;exact⟨a3,a1,a4,a5⟩
  ·subst z;obtain⟨_,a1,_,a3,a4,a5⟩:=f2;exact⟨a3,a1,a4,a5⟩
 ·obtain⟨o,es,ep,ho,r⟩:=hm
  exact⟨o,es,ep,k _ o (Ne.symm f1.2.1) (Ne.symm f2.2.1) ho,r⟩
 ·by_cases hb:b=T
  ·subst hb
   rw[Z9]at q;cases q
   exact⟨hz,its,rv,ht⟩
  ·rw[Zs hb]at q
   refine(I.hok b u q).stay (fun c v hc z=>?_) (fun c z=>by rw[Zs (Z4 z hTn)];exact z) fun c ys z=>by rw[Zs (Z4 z hTn)];exact z
   rcases hc with y|y
   ·rw[y]at z⊢;exact k _ _ (ntr b u q).1 (ntr b u q).2 z
   ·exact k _ _ (ntr c _ y).1 (ntr c _ y).2 z
theorem Zl0{P:Program}{w:World}{K:PySem.W.Frag}{elts:List Expr}{kk:Nat}{tpos:Pos}(a e it:Addr)(hei:e≠it):Turn P w K (.Tuple elts kk tpos) (Ite K a) [e,it] e (fun i h=>(∃old,IsEnum h e it ((i:Nat):Int) old)∧h.IsListIter it a i)where
 mem:=by simp
 obj:=fun i h st b hb=>by
  have hb':b=e∨b=it:=by simpa using hb
  rcases hb' with z|z
  ·subst z
   obtain⟨old,q⟩:=st.1
   exact⟨_,q,fun v y=>by
    have y':Data.fields _=Data.cell v:=y
    cases y'⟩
  ·subst z
   obtain⟨o,q,c,d⟩:=st.2
   exact⟨o,q,fun v y=>by rw[d]at y;cases y⟩
 keep:=fun i h h' st k=>⟨let⟨old,q⟩:=st.1;⟨old,k e (by simp) _ q⟩,st.2.at fun o q=>k it (by simp) o q⟩
 item:=by
  intro X hP hw hK hc i pins s σ H E I hf st hg
  subst hP hw hK
  obtain⟨xs,x,hq,hx⟩:=hg
  obtain⟨its,rv,p,hz⟩:=I.list hq
  obtain⟨u,hu,ru⟩:=rv.get hx
  obtain⟨⟨old,he⟩,hit⟩:=st
  have hl:s.heap.IsList a its.toArray:=p.isList
  have ai:a≠it:=fun z=>by
   obtain⟨o1,q1,c1,_⟩:=hit
   obtain⟨o2,q2,c2,_⟩:=hl
   rw[z,q1]at q2;cases q2
   rw[c1]at c2;exact absurd c2 (by decide)
  have ae:e∉[it,a]:=fun z=>by
   have z':e=it∨e=a:=by simpa using z
   rcases z' with z|z
   ·exact hei z
   ·obtain⟨o2,q2,c2,_⟩:=hl
    rw[←z,he]at q2;cases q2;exact absurd (show Value.type "enumerate"=Value.type "list"from c2) (by decide)
  have D:=Draws.list (prog:=X.prog) (w:=X.w) (A:=X.A.in1) (by first|exact I.ok.hd hc| (rw[show X.A.in1.handled=X.A.handled from rfl];exact I.ok.hd hc)) it a ai its.toArray
  have hlt:i<its.toArray.size:=by
   have:=(List.getElem?_eq_some_iff.mp hu).1
   rw[List.size_toArray];exact this
  refine wpAny_pyNext_enum_itemD D he ⟨hit,hl⟩ hlt hei ae fun y h' tk hy hout st' hT hsz hk=>⟨.ref s.heap.objs.size,rfl,?_⟩
  refine wpAny_letOwnedTupleGo_enum hout fun h2 he2 hs2=>?_
  have hy':its.toArray[i]? =some y:=hy
  have ey:y=u:=by
   have:its[i]? =some y:=by simpa using hy'
   rw[hu]at this;cases this;rfl
  subst ey
  have kk:∀b o,b≠e→b≠it→s.heap.get? b=some o→h2.get? b=some o:=fun b o h1 h3 q=>(hs2.2 b h1).trans (hk b o h1 h3 q)
  have neT:s.heap.objs.size≠e:=Nat.ne_of_gt (Heap.lt_size he)
  have I2:=I.turnedT (h':=h2) (t':=tk+1) (e:=e) (it:=it) (T:=s.heap.objs.size) (xs:=[.int (i:Nat),x]) (its:=[.int i tk,y]) kk (hf e (by simp)) (hf it (by simp)) rfl ⟨_,(hs2.2 _ neT).trans hT,rfl,_,rfl⟩ (.cons ⟨tk,rfl⟩ (.cons ru .nil)) (by show 2≤sizeLine;decide)
   ⟨_,he2⟩ (let⟨o,q,_⟩:=st'.1;⟨o,(hs2.2 it (Ne.symm hei)).trans q⟩)
  refine⟨.ref s.heap.objs.size,_,I2,rfl,⟨s.heap.objs.size,x,rfl,I.hok.fresh (Nat.le_refl _),rfl,fun ys hy2=>by rw[I.list_inj hy2 hq];exact hx⟩,⟨⟨_,he2⟩,st'.1.at fun o q=>(hs2.2 it (Ne.symm hei)).trans q⟩,fun b hb=>?_⟩
  rw[Zs fun z=>?_]
  ·exact(hf b hb).1
  ·have hb':b=e∨b=it:=by simpa using hb
   rcases hb' with y|y
   ·rw[←z,y]at neT;exact neT rfl
   ·obtain⟨o,q,_⟩:=hit
    rw[y]at z
    exact absurd (Heap.lt_size q) (by rw[z];exact Nat.lt_irrefl _)
 done:=by
  intro X hP hw hK hc i pins s σ H E I hf st hg
  subst hP hw hK
  obtain⟨xs,hq,hx⟩:=hg
  obtain⟨its,rv,p,hz⟩:=I.list hq
  obtain⟨⟨old,he⟩,hit⟩:=st
  obtain⟨f0,f1,f2,f3,f4,f5⟩:=hf it (by simp)
  have hl:=rv.length
  exact wpAny_pyNext_enum_end (I.ok.hd hc) he hit p.isList (by simp;omega) fun h' eb=>⟨rfl,I.turned (t':=s.toks) (fun b o hb q=>eb b o hb q) f0 f1 f3 f4 f5⟩
 self:=fun _ _ _ _ _ st h=>let⟨⟨old,he⟩,_⟩:=st;wpAny_pyIter_enum he h
noncomputable def Zvg(K:PySem.W.Frag)(ta:TA):TI:=fun σ H R=>ta σ H fun vs H1=>∃a xs,vs=[.ref a]∧SqL K H1 a xs∧R (Ite K a) H1
theorem Zrq{l:Expr}{elts:List Expr}{kk:Nat}{tpos p pos:Pos}{ta:TA}(hg:Gl X "enumerate")(hm:X.mg "enumerate"=none)(ha:PA X [l] ta)(hs:starEach [l] X.env=[(false,eval l X.env)]:=by rfl):
  PI X (.Tuple elts kk tpos) (.Call (.Name "enumerate" p) [l] [] pos) (Zvg X.K ta):=by
 intro pins s σ H R I h
 refine Call_ (Zd4 I hg hm boot_enumerate (PyProof.Rows.callWith_type1 (thn (ha pos pins s σ H _ I h) fun us s1 ⟨vs,H1,I1,r1,q1⟩=>?_) hs rfl))
 obtain⟨a,xs,e,hq,q⟩:=q1
 subst e
 obtain⟨u,rfl,ru⟩:=Zey r1
 cases ru
 obtain⟨its,rv,p,hz⟩:=I1.list hq
 refine call_enumerate_list p.isList fun h' he hit hsz hk=>wpAny_pyIter_enum he ?_
 have I2:Inv X pins σ H1 {s1 with heap:=h'}:=I1.kept (t':=s1.toks) hk
 refine⟨s1.heap.objs.size+1,[s1.heap.objs.size+1,s1.heap.objs.size],_,_,H1,rfl,I2,Zl0 a _ _ (Nat.succ_ne_self _),⟨⟨.none,by simpa using he⟩,hit⟩,fun b hb=>?_,q⟩
 have hb':b=s1.heap.objs.size+1∨b=s1.heap.objs.size:=by simpa using hb
 rcases hb' with z|z
 ·subst z;exact I1.fpOk (Nat.le_succ _) (I1.hok.fresh (Nat.le_succ _))
 ·subst z;exact I1.fpOk (Nat.le_refl _) (I1.hok.fresh (Nat.le_refl _))
noncomputable def Z12(K:PySem.W.Frag):V→List V→Hp→VK→Prop:=fun x xs H Q=>∃sep p ys,x= .str sep∧xs=[.ref p]∧SqL K H p (ys.map V.str)∧JoinOk sep ys=true∧Q (.str (Txt.join sep ys)) H
inductive TyX(K:PySem.W.Frag)(H:Hp):V→String→Prop where
 |non:TyX K H .non "NoneType"
 |bl (x:Bool):TyX K H (.bl x) "bool"
 |int (i:Int):TyX K H (.int i) "int"
 |str (x:Str):TyX K H (.str x) "str"
 |lst {a:Addr} {xs:List V} (e:SqL K H a xs):TyX K H (.ref a) "list"
 |tup {a:Addr} {xs:List V} (e:SqT K H a xs):TyX K H (.ref a) "tuple"
 |dK {a:Addr} {kvs:List (Key×V)} {ep:Nat} (e:H a=some (.dK kvs ep)):TyX K H (.ref a) "dict"
 |dT {a:Addr} {kvs:List (List Key×V)} {ep:Nat} {bs:List Addr} (e:H a=some (.dT kvs ep bs)):TyX K H (.ref a) "dict"
noncomputable def rIsI(K:PySem.W.Frag)(c:String):List V→Hp→VK→Prop:=fun xs H Q=>∃x t b,xs=[x,.ty c]∧TyX K H x t∧PySem.W.kitOne K (.type t) (.type c)=some b∧Q (.bl b) H
end
end L2
namespace DL
open PySem PySem.Spec PyProof.Rows L2
variable{K:PySem.W.Frag}
noncomputable def Zeg(xs:List D):List D:=xs.zipIdx.map fun p=>.tup [.int (p.2:Nat),p.1]
theorem Zg1{xs:List D}{i:Nat}{d:D}(h:(Zeg xs)[i]? =some d):∃x,xs[i]? =some x∧d= .tup [.int (i:Nat),x]:=by
 unfold Zeg at h
 rw[List.getElem?_map,List.getElem?_zipIdx]at h
 cases e:xs[i]? with
 |none=>rw[e]at h;cases h
 |some x=>rw[e]at h;cases h;exact⟨x,rfl,by simp⟩
theorem Zg2(xs:List D):(Zeg xs).length=xs.length:=by unfold Zeg;rw[List.length_map,List.length_zipIdx]
theorem Zid{F:Hp}{a:Addr}{xs:List D}{vs:List V}(h:SqL K F a vs)(r:Reps K F xs vs):Zec K (Ite K a) F (Zeg xs):=fun F' H sF sH i=>by
 have q:SqL K H a vs:=Zav (sF.trans sH) h
 refine⟨fun d hd=>?_,fun hl=>⟨vs,q,by rw[←r.length,←Zg2];exact hl⟩⟩
 obtain⟨x,hx,rfl⟩:=Zg1 hd
 obtain⟨v,h1,h2⟩:=r.get hx
 refine⟨⟨vs,v,q,h1⟩,fun y H' zq9=>?_⟩
 obtain⟨p,w,e1,e2,e3,e4⟩:=zq9
 subst e1 e3
 have e5:=e4 vs q
 rw[h1]at e5;cases e5
 have hp:F' p=none:=sH.free e2
 have sm:Same F' (addL F' [(p,.tup [.int (i:Nat),v])]):=Zax fun z hz=>by obtain rfl:=List.mem_singleton.mp hz;exact hp
 refine⟨Zcd e2,[(p,.tup [.int (i:Nat),v])],nd1,fun z hz=>?_,.tup Z9 (.cons (.int _) (.cons (h2.mono (sF.trans sm)) .nil))⟩
 obtain rfl:=List.mem_singleton.mp hz
 exact⟨e2,Z9⟩
section
variable{Z:Ent K}{H:Hp}{σ:L2.St}{Q:VK}
@[simp] noncomputable def Zvh(fd:FD):FD:=fun δ=>(fd δ).bind fun p=>match p.1 with
 | [.lst xs]=>some (Zeg xs,p.2)
 |_=>none
theorem Zrr{fd:FD}{R:It→Hp→Prop}(h:Zci Z (Zvh fd) σ H R):Zvg K (Zcg Z fd) σ H R:=by
 obtain⟨F,δ,own,ds,δ',s,e,k⟩:=h
 obtain⟨⟨ds1,δ1⟩,e1,e2⟩:=Option.bind_eq_some_iff.mp e
 refine⟨F,δ,own,ds1,δ1,s,e1,fun vs H1 F1 own1 sH sF s1 r1=>?_⟩
 dsimp only at e2
 split at e2
 ·rename_i xs
  cases e2
  cases r1 with
  |cons h t=>
   cases t
   cases h with
   |lst h r=>exact⟨_,_,rfl,Zav s1.le h,k _ H1 F1 own1 sH sF s1 (Zid h r)⟩
 ·cases e2
@[simp] noncomputable def D.ty:D→String
 | .str _=>"str"
 | .int _=>"int"
 | .lst _=>"list"
 | .dK _ _=>"dict"
 | .dT _ _=>"dict"
 |_=>"?"
@[simp] noncomputable def tyOk(T:String)(d:D):Bool:=T==d.ty&&(T=="str" ||T=="list" ||T=="dict")
theorem Zvi{F H:Hp}{d:D}{x:V}{T:String}(le:Same F H)(r:RepN K F H d x)(h:tyOk T d=true):tyV K T x H:=by
 unfold tyOk at h
 simp only[Bool.and_eq_true,beq_iff_eq]at h
 obtain⟨h1,h2⟩:=h
 subst h1
 cases d with
 |str y=>rw[r.str];rfl
 |lst xs=>
  obtain⟨a,vs,e,ha,_⟩:=r.lst le
  subst e
  exact .inl ⟨rfl,vs,ha⟩
 |dK ks vs=>
  obtain⟨a,kvs,e,⟨ep,ha⟩,_⟩:=r.dK le
  subst e
  exact .inr (.inr (.inl ⟨rfl,.inl ⟨kvs,ep,ha⟩⟩))
 |dT ks vs=>
  obtain⟨a,kvs,e,⟨ep,bs,ha⟩,_⟩:=r.dT le
  subst e
  exact .inr (.inr (.inl ⟨rfl,.inr ⟨kvs,ep,bs,ha⟩⟩))
 |non=>exact absurd (show("?"=="str" || "?"=="list" || "?"=="dict")=true from h2) (by decide)
 |bl b=>exact absurd (show("?"=="str" || "?"=="list" || "?"=="dict")=true from h2) (by decide)
 |int i=>exact absurd (show("int"=="str" || "int"=="list" || "int"=="dict")=true from h2) (by decide)
 |tup xs=>exact absurd (show("?"=="str" || "?"=="list" || "?"=="dict")=true from h2) (by decide)
 |exc C ks vs=>exact absurd (show("?"=="str" || "?"=="list" || "?"=="dict")=true from h2) (by decide)
@[simp] noncomputable def bmF(T:String)(g:List D→Option SV)(fo:FE)(fa:FA):FE:=fun δ=>(fo δ).bind fun p=>(rdv p.1 p.2).bind fun d0=>if tyOk T d0=true then(fa p.2).bind fun q=>(Zco (p.1::q.1) q.2).bind fun ds=>(g ds).bind fun sv=>some (.tmp sv,q.2)else none
noncomputable def Zrs(Z:Ent K)(r:V→List V→Hp→VK→Prop)(g:List D→Option SV):Prop:=Zft Z (fun vs H Q=>∃x xs,vs=x::xs∧r x xs H Q) g
theorem l_bm{T:String}{r:V→List V→Hp→VK→Prop}{g:List D→Option SV}{fo:FE}{fa:FA}(hg:Zrs Z r g)(h:Zb Z (bmF T g fo fa) σ H Q):tBM K T r (Zb Z fo) (Zdb Z fa) σ H Q:=by
 obtain⟨F,δ,own,rv,δ',s,e,k⟩:=h
 obtain⟨⟨rv1,δ1⟩,e1,e⟩:=Option.bind_eq_some_iff.mp e
 obtain⟨d0,e2,e⟩:=Option.bind_eq_some_iff.mp e
 dsimp only at e
 split at e
 ·rename_i ht
  obtain⟨⟨rvs,δ2⟩,e3,e⟩:=Option.bind_eq_some_iff.mp e
  obtain⟨ds,e4,e⟩:=Option.bind_eq_some_iff.mp e
  obtain⟨sv,e5,e⟩:=Option.bind_eq_some_iff.mp e
  cases e
  refine⟨F,δ,own,rv1,δ1,s,e1,fun v H1 F1 own1 sH1 sF1 s1 r1=>?_⟩
  obtain⟨F1',sF1',s1',r1'⟩:=s1.settleR r1
  refine⟨Zvi s1'.le (s1'.rd r1' e2) ht,F1',δ1,own1,rvs,δ2,s1',e3,fun vs H2 F2 own2 sH2 sF2 s2 r2=>?_⟩
  obtain⟨x,xs,ex,q⟩:=hg F2 H2 σ δ2 own2 (v::vs) ds sv Q s2 (s2.rdAll (.cons (r1'.mono sF2) r2) e4) e5 fun q H4 F4 ns sH4 sF4 s4 t4=>
   k q H4 F4 own2 (sH1.trans (sH2.trans sH4)) (sF1.trans (sF1'.trans (sF2.trans sF4))) s4 ⟨ns,t4⟩
  injection ex with ex1 ex2
  subst ex1 ex2
  exact q
 ·cases e
end
@[simp] noncomputable def strs?:List D→Option (List Str)
 | []=>some []
 | .str x::r=>(strs? r).bind fun t=>some (x::t)
 |_=>none
@[simp] noncomputable def Z13:List D→Option SV
 | [.str sep,.lst xs]=>(strs? xs).bind fun ys=>if JoinOk sep ys=true then some (.fz (.str (Txt.join sep ys)))else none
 |_=>none
variable{Z:Ent K}
@[simp] noncomputable def D.pyTy:D→String
 | .non=>"NoneType"
 | .bl _=>"bool"
 | .int _=>"int"
 | .str _=>"str"
 | .tup _=>"tuple"
 | .lst _=>"list"
 | .dK _ _=>"dict"
 | .dT _ _=>"dict"
 | .exc _ _ _=>"?"
@[simp] noncomputable def D.isExc:D→Bool
 | .exc _ _ _=>true
 |_=>false
@[simp] noncomputable def isiD(c:String)(d:D):Option SV:=if d.isExc=true then none else some (.fz (.bl (d.pyTy==c|| (c=="int" &&d.pyTy=="bool"))))
@[simp] noncomputable def lenD:List D→Option SV
 | [.lst xs]=>some (.fz (.int (xs.length:Nat)))
 | [.tup xs]=>some (.fz (.int (xs.length:Nat)))
 | [.str x]=>if x.length≤PySem.sizeLine then some (.fz (.int (x.length:Nat)))else none
 |_=>none
theorem Zyi:Zft Z (fun xs H Q=>(∃p ys,xs=[V.ref p]∧(SqL K H p ys∨SqT K H p ys)∧Q (.int ys.length) H)∨(∃z,xs=[V.str z]∧z.length≤PySem.sizeLine∧Q (.int z.length) H)) lenD:=by
 intro F H σ δ own vs ds sv Q s r e k
 unfold lenD at e
 split at e
 ·cases e
  cases r with
  |cons h t=>
   cases t
   obtain⟨a,us,ex,ha,ra⟩:=h.lst s.le
   subst ex
   exact .inl ⟨a,us,rfl,.inl ha,by rw[←ra.length];exact k.fz s (.int _)⟩
 ·cases e
  cases r with
  |cons h t=>
   cases t
   obtain⟨a,us,ex,ha,ra⟩:=h.tup s.le
   subst ex
   exact .inl ⟨a,us,rfl,.inr ha,by rw[←ra.length];exact k.fz s (.int _)⟩
 ·split at e
  ·rename_i hz
   cases e
   cases r with
   |cons h t=>
    cases t
    exact .inr ⟨_,by rw[h.str],hz,k.fz s (.int _)⟩
  ·cases e
 ·cases e
@[simp] noncomputable def Zkk:List D→Option SV
 | [.lst xs]=>some (.ol xs)
 | [.tup xs]=>some (.ol xs)
 |_=>none
theorem Zvj:Zft Z (fun xs H Q=>∃p ys,xs=[V.ref p]∧(SqL K H p ys∨SqT K H p ys)∧∀l,H l=none→Q (.ref l) (upd H l (.lst ys))) Zkk:=by
 intro F H σ δ own vs ds sv Q s r e k
 unfold Zkk at e
 split at e
 ·cases e
  cases r with
  |cons h t=>
   cases t
   obtain⟨a,us,ex,ha,ra⟩:=h.lst s.le
   subst ex
   exact⟨a,us,rfl,.inl ha,fun l hl=>k.lst s ra hl⟩
 ·cases e
  cases r with
  |cons h t=>
   cases t
   obtain⟨a,us,ex,ha,ra⟩:=h.tup s.le
   subst ex
   exact⟨a,us,rfl,.inr ha,fun l hl=>k.lst s ra hl⟩
 ·cases e
@[simp] noncomputable def Z0l:List D→Option SV
 | [.lst xs]=>some (.fz (.tup xs))
 |_=>none
@[simp] noncomputable def intD:List D→Option SV
 | [.int i]=>some (.fz (.int i))
 | [.bl b]=>some (.fz (.int (if b then 1 else 0)))
 |_=>none
section
variable{X:Cx}{Z:Ent X.K}{a b c:Expr}{fa fb fc:FE}{pos:Pos}
theorem Zc(i:Nat){x:Str}{pos:Pos}(hN:X.N[i]? =some x:=by rfl)(hv:Vis X.env.scope x:=by first|exact Or.inl rfl|exact Or.inr (Or.inl rfl)|exact Or.inr (Or.inr rfl))(hd:(x==("__debug__":Str))=false:=by decide)
  (hcd:(x==("__classdict__":Str))=false:=by decide):PE X (.Name x pos) (Zb Z (Za i)):=(Zi2 hN hv hd hcd).imp fun _ _ _ h=>Zx2 h
theorem Zr{i:Int}{j:Nat}:PE X (.Constant (.int i) j pos) (Zb Z (Ze (.int i))):=Zto.imp fun _ _ _ h=>Zeb (fun _=>.int _) h
theorem e_bl{i:Bool}{j:Nat}:PE X (.Constant (.bool i) j pos) (Zb Z (Ze (.bl i))):=Zxf.imp fun _ _ _ h=>Zeb (fun _=>.bl _) h
theorem Zok{j:Nat}:PE X (.Constant .none j pos) (Zb Z (Ze .non)):=Ztp.imp fun _ _ _ h=>Zeb (fun _=>.non) h
theorem Zcp{i:Str}{j:Nat}:PE X (.Constant (.str i) j pos) (Zb Z (Ze (.str i))):=Ztq.imp fun _ _ _ h=>Zeb (fun _=>.str _) h
theorem Zrt{x:Str}{y:Str}{t:Tok}(hm:X.mg x=some (.str y t))(hg:Gl X x:=by rfl)(hd:(x==("__debug__":Str))=false:=by decide):PE X (.Name x pos) (Zb Z (Ze (.str y))):=
 (Zqt (v:=.str y) hg hm ⟨t,rfl⟩ hd).imp fun _ _ _ h=>Zeb (fun _=>.str _) h
theorem Zl1{op:Operator}{r:R2}{g:D→D→Option SV}(ho:OpR X (binaryOp op) r)(hp:Zaf Z r g)(ha:PE X a (Zb Z fa))(hb:PE X b (Zb Z fb)):PE X (.BinOp a op b pos) (Zb Z (binF g fa fb)):=(Zxi ho ha hb).imp fun _ _ _ h=>Zlw hp h
theorem Zcj(ha:PE X a (Zb Z fa))(hb:PE X b (Zb Z fb)):PE X (.BinOp a .Add b pos) (Zb Z (binF addD fa fb)):=Zl1 Zro Zyg ha hb
theorem Zyj(ha:PE X a (Zb Z fa))(hb:PE X b (Zb Z fb)):PE X (.BinOp a .Sub b pos) (Zb Z (binF subD fa fb)):=Zl1 Zt8 Zyd ha hb
theorem Zg3(ha:PE X a (Zb Z fa))(hb:PE X b (Zb Z fb)):PE X (.BinOp a .FloorDiv b pos) (Zb Z (binF Zic fa fb)):=Zl1 Zq0 Zvb ha hb
theorem Zcy(ha:PE X a (Zb Z fa))(hb:PE X b (Zb Z fb)):PE X (.BinOp a .Mod b pos) (Zb Z (binF modD fa fb)):=Zl1 Zua Zyf ha hb
theorem Zru{op:CmpOp}{r:R2}{g:D→D→Option SV}(ho:OpR X (compareOp op) r)(hp:Zaf Z r g)(ha:PE X a (Zb Z fa))(hb:PE X b (Zb Z fb))(hm:behindInMarks op b=false):PE X (.Compare a [op] [b] pos) (Zb Z (binF g fa fb)):=(Zq1 ho ha hb hm).imp fun _ _ _ h=>Zlw hp h
theorem Zg4{op:CmpOp}{r:R2}{g:D→D→Option SV}(ho:OpR X (compareOp op) r)(hp:Zaf Z r g)(ha:PE X a (Zb Z fa))(hb:PE X b (Zb Z fb))(hm:behindInMarks op b=false):PT X (.Compare a [op] [b] pos) (Zw Z (Z6 (binF g fa fb))):=
 (Zq2 ho ha hb hm).imp fun σ H Q h=>by
  obtain⟨F,δ,own,rv,δ',s,e,k⟩:=Zly h
  exact Zlw hp ⟨F,δ,own,rv,δ',s,e,k⟩
theorem e_gt(ha:PE X a (Zb Z fa))(hb:PE X b (Zb Z fb)):PE X (.Compare a [.Gt] [b] pos) (Zb Z (binF gtD fa fb)):=Zru Zud p_gt ha hb (Zdn _)
theorem t_lt(ha:PE X a (Zb Z fa))(hb:PE X b (Zb Z fb)):PT X (.Compare a [.Lt] [b] pos) (Zw Z (Z6 (binF ltD fa fb))):=Zg4 Zxl p_lt ha hb (Zdn _)
theorem t_gt(ha:PE X a (Zb Z fa))(hb:PE X b (Zb Z fb)):PT X (.Compare a [.Gt] [b] pos) (Zw Z (Z6 (binF gtD fa fb))):=Zg4 Zud p_gt ha hb (Zdn _)
theorem t_ge(ha:PE X a (Zb Z fa))(hb:PE X b (Zb Z fb)):PT X (.Compare a [.GtE] [b] pos) (Zw Z (Z6 (binF geD fa fb))):=Zg4 Zxm p_ge ha hb (Zdn _)
theorem Zvk(ha:PE X a (Zb Z fa))(hb:PE X b (Zb Z fb)):PT X (.Compare a [.Is] [b] pos) (Zw Z (Z6 (binF isND fa fb))):=Zg4 Zue Zyh ha hb (Zdn _)
theorem Zpz{f:FT}(ha:PT X a (Zw Z f)):PW X (.BoolOp .And [a] pos) (Zw Z f):=Zqu ha
theorem Zyk{f:FT}(ha:PT X a (Zw Z f)):PW X (.BoolOp .Or [a] pos) (Zw Z f):=Zts ha
theorem Zvl{f g:FT}{rest:List Expr}(ha:PT X a (Zw Z f))(hb:PW X (.BoolOp .And (b::rest) pos) (Zw Z g)):PW X (.BoolOp .And (a::b::rest) pos) (Zw Z (andF f g)):=(Ztt ha hb).imp fun _ _ _ h=>Zx5 h
theorem w_or{f g:FT}{rest:List Expr}(ha:PT X a (Zw Z f))(hb:PW X (.BoolOp .Or (b::rest) pos) (Zw Z g)):PW X (.BoolOp .Or (a::b::rest) pos) (Zw Z (orF f g)):=(Zxg ha hb).imp fun _ _ _ h=>l_or h
theorem Zyl{f:FT}(ha:PT X a (Zw Z f)):PT X (.UnaryOp .Not a pos) (Zw Z (notF f)):=(Ztu ha).imp fun _ _ _ h=>Zx6 h
theorem Zym(h:PE X a (Zb Z fa))(he:∀whole,isTrue a X.env whole=(do let v←whole;standAt a.pos;holding [v] (truthy v)):=by intro _;rfl):PT X a (Zw Z (Z6 fa)):=(Ztr h he).imp fun _ _ _ h=>Zri h
theorem Zyn{op:BoolOp}(h:PE X a (Zb Z fa)):PE X (.BoolOp op [a] pos) (Zb Z fa):=Ztw h
theorem Zyo{rest:List Expr}(ha:PE X a (Zb Z fa))(hb:PE X (.BoolOp .And (b::rest) pos) (Zb Z fb)):PE X (.BoolOp .And (a::b::rest) pos) (Zb Z (andV fa fb)):=(Ztx ha hb).imp fun _ _ _ h=>Zu3 h
theorem e_if{t:FT}(hc:PT X c (Zw Z t))(ha:PE X a (Zb Z fa))(hb:PE X b (Zb Z fb)):PE X (.IfExp c a b pos) (Zb Z (ifF t fa fb)):=(Znu hc ha hb).imp fun _ _ _ h=>l_if h
theorem Za7:PA X [] (Zdb Z Zh):=Zle.imp fun _ _ _ h=>Zob h
theorem Zm{es:List Expr}{fr:FA}(ha:PE X a (Zb Z fa))(hr:PA X es (Zdb Z fr))(hs:starEach (a::es) X.env=(false,eval a X.env)::starEach es X.env:=by rfl):PA X (a::es) (Zdb Z (Zd fa fr)):=(Zh0 ha hr hs).imp fun _ _ _ h=>Zlv h
theorem Zcq:PA X [] (Zcg Z Z0):=Zle.imp fun _ _ _ h=>Zlx h
theorem Za8{es:List Expr}{fr:FD}(ha:PE X a (Zb Z fa))(hr:PA X es (Zcg Z fr))(hs:starEach (a::es) X.env=(false,eval a X.env)::starEach es X.env:=by rfl):PA X (a::es) (Zcg Z (Zq fa fr)):=(Zh0 ha hr hs).imp fun _ _ _ h=>Zki h
theorem Zol{es:List Expr}{fd:FD}{k:Nat}(h:PA X es (Zcg Z fd)):PE X (.Tuple es k pos) (Zb Z (tupF fd)):=(Zug h).imp fun _ _ _ h=>Zx3 h
theorem Zie{es:List Expr}{fd:FD}(h:PA X es (Zcg Z fd)):PE X (.List es pos) (Zb Z (lstF fd)):=(Zuh h).imp fun _ _ _ h=>Zx4 h
theorem Zfb:PO X none (Ze0 Z Zdq):=fun pins s σ H Q I h=>Zq4 pins s σ H Q I (Zoj h)
theorem Zdr(ha:PE X a (Zb Z fa)):PO X (some a) (Ze0 Z (Ze1 fa)):=fun pins s σ H Q I h=>Zq5 ha pins s σ H Q I (Zve h)
theorem e_sl{lo hi:Option Expr}{fl fh:FO}{p2:Pos}(ha:PE X a (Zb Z fa))(hl:PO X lo (Ze0 Z fl))(hh:PO X hi (Ze0 Z fh)):PE X (.Subscript a (.Slice lo hi none p2) pos) (Zb Z (slF slD fa fl fh)):=
 (Zi4 (Zq7.or Zvf) ha hl hh).imp fun _ _ _ h=>l_sl p_sl h
theorem Za0{k n:Nat}{f:Addr}{fd:FuncData}{ps:List Str}{g:List D→Option SV}{x:Str}{p:Pos}{es:List Expr}{fr:FA}(F:FnOk X.prog X.w X.K X.mg X.base CX0 k f fd ps (spOf X.K n g))(hr:Room k X.A)(hm:X.mg x=some (.ref f))(hk:PySem.W.keepIn X.K (.ref f)=true)(hb:Zbi X.K fd ps [])
  (ha:PA X (a::es) (Zdb Z fr)) (hg:Gl X x:=by rfl) (hdb:(x==("__debug__":Str))=false:=by decide) (he:starEach (a::es) X.env=(false,eval a X.env)::starEach es X.env:=by rfl) (hpl:(backTo pos (starEach es X.env)).any (·.1)=false:=by rfl):
  PE X (.Call (.Name x p) (a::es) [] pos) (Zb Z (Zbx n g fr)):=(Zq3 F hr hg hm hk hb .nil Zxv ha hdb he hpl).imp fun _ _ _ h=>Zu2 h
theorem Zrv{id:String}{r:List V→Hp→VK→Prop}{g:List D→Option SV}{x:Str}{p:Pos}{es:List Expr}{fr:FA}(hc:Zdu X (.builtin id) r)(hp:Zft Z r g)(hm:X.mg x=none)(hv:bootBuiltins x=some (.builtin id))(ha:PA X (a::es) (Zdb Z fr))(hg:Gl X x:=by rfl)(hn:x≠"__name__":=by decide)(hdb:(x==("__debug__":Str))=false:=by decide)
  (he:starEach (a::es) X.env=(false,eval a X.env)::starEach es X.env:=by rfl) (hpl:(backTo pos (starEach es X.env)).any (·.1)=false:=by rfl):PE X (.Call (.Name x p) (a::es) [] pos) (Zb Z (Zbk g fr)):=(Zn1 hc hg hm hv ha hn hdb he hpl).imp fun _ _ _ h=>Zi9 hp h
theorem Zl2{T:String}{r:List V→Hp→VK→Prop}{g:List D→Option SV}{x:Str}{p:Pos}{es:List Expr}{fr:FA}(hc:Zdu X (.type T) r)(hp:Zft Z r g)(hm:X.mg x=none)(hv:bootBuiltins x=some (.type T))(ha:PA X (a::es) (Zdb Z fr))(hg:Gl X x:=by rfl)(hn:x≠"__name__":=by decide)(hdb:(x==("__debug__":Str))=false:=by decide)
  (he:starEach (a::es) X.env=(false,eval a X.env)::starEach es X.env:=by rfl) (hpl:(backTo pos (starEach es X.env)).any (·.1)=false:=by rfl):PE X (.Call (.Name x p) (a::es) [] pos) (Zb Z (Zbk g fr)):=(Zlh hc hg hm hv ha hn hdb he hpl).imp fun _ _ _ h=>Zi9 hp h
theorem Zkl{p:Pos}(hm:X.mg "len"=none)(ha:PE X a (Zb Z fa))(hg:Gl X "len":=by rfl)(he:starEach [a] X.env=(false,eval a X.env)::starEach [] X.env:=by rfl)(hpl:(backTo pos (starEach [] X.env)).any (·.1)=false:=by rfl):PE X (.Call (.Name "len" p) [a] [] pos) (Zb Z (Zbk lenD (Zd fa Zh))):=
 Zrv (Zgr.or Zgs) Zyi hm PySem.boot_len (Zm ha Za7 he) hg (by decide) (by decide) he hpl
theorem Zl3{p:Pos}(hm:X.mg "list"=none)(ha:PE X a (Zb Z fa))(hg:Gl X "list":=by rfl)(he:starEach [a] X.env=(false,eval a X.env)::starEach [] X.env:=by rfl)(hpl:(backTo pos (starEach [] X.env)).any (·.1)=false:=by rfl):PE X (.Call (.Name "list" p) [a] [] pos) (Zb Z (Zbk Zkk (Zd fa Zh))):=
 Zl2 Zgt Zvj hm boot_list (Zm ha Za7 he) hg (by decide) (by decide) he hpl
theorem Zaj(i:Nat){x:Str}(hN:X.N.Nodup)(hi:X.N[i]? =some x:=by rfl)(hx:Loc X.env.scope x:=by first|exact Or.inl rfl|exact Or.inr rfl)(hf:X.fn x=true∨X.env.scope.names.lookup x=some .local:=by first|exact .inl rfl|exact .inr rfl):PG X (.Name x pos) (Zdx Z (Zg i)):=(Zqy hN hi hx hf).imp fun _ _ _ _ h=>Zrj h
theorem Zjc:PGs X [] (Zdp Z Zdc):=Zqz.imp fun _ _ _ _ h=>Zu8 h
theorem Zbd{es:List Expr}{g:FG}{r:FGs}(h1:PG X a (Zdx Z g))(h2:PGs X es (Zdp Z r))(hs:(assignEach (a::es) X.env).map (·.2)=assign a X.env::(assignEach es X.env).map (·.2):=by rfl):PGs X (a::es) (Zdp Z (Z3 g r)):=(Znw h1 h2 hs).imp fun _ _ _ _ h=>Zrk h
theorem Zom{es:List Expr}{k n:Nat}{g:FGs}(hc:X.calm=true)(h:PGs X es (Zdp Z g))(hn:(assignEach es X.env).length=n:=by rfl)(hst:(assignEach es X.env).findIdx? (·.1)=none:=by rfl):PG X (.Tuple es k pos) (Zdx Z (Zcw n g)):=(Zt2 hc h hn hst).imp fun _ _ _ _ h=>Zu9 h
theorem Zon{tg:Expr}{p:Pos}(hm:X.mg "range"=none)(ha:PE X a (Zb Z fa))(hg:Gl X "range":=by rfl)(hs:starEach [a] X.env=[(false,eval a X.env)]:=by rfl):PI X tg (.Call (.Name "range" p) [a] [] pos) (Zci Z (rngI (Zd fa Zh))):=(Zk8 hg hm (Zm ha Za7 hs) hs).imp fun _ _ _ h=>Zva h
theorem Zcz{N':List Str}{scope:Scope}{src:List BSrc}(kind:scope.kind= .function)(nocell:(scope.names.all fun y=>!(y.2== .cell))=true)(names:(scope.names.all fun y=>!(y.2== .local)|| (scope.names.lookup y.1==some .local))=true)
  (free:(scope.names.all fun y=>!(y.2== .free)|| (X.env.kindOf y.1==some .cell)|| (X.env.kindOf y.1==some .free))=true) (len:src.length=N'.length)
  (cap:((List.range src.length).all fun k=>match src[k]?,N'[k]? with
   |some (.cap j),some x=>(X.N[j]? ==some x)&&((X.env.kindOf x==some .cell)|| (X.env.kindOf x==some .free))&&(scope.names.lookup x==some .free)
   |some .acc,some x=>scope.names.lookup x==none
   |_,_=>true)=true):CompScope X N' scope src:=by
 have capk:∀(k:Nat) (q:BSrc) (x:Str),src[k]? =some q→N'[k]? =some x→(match some q,some x with
   |some (.cap j),some x=>(X.N[j]? ==some x)&&((X.env.kindOf x==some .cell)|| (X.env.kindOf x==some .free))&&(scope.names.lookup x==some .free)
   |some .acc,some x=>scope.names.lookup x==none
   |_,_=>true)=true:=fun k q x h1 h2=>by
  have hk:k<src.length:=(List.getElem?_eq_some_iff.mp h1).1
  have:=List.all_eq_true.mp cap k (List.mem_range.mpr hk)
  rw[h1,h2]at this
  exact this
 refine⟨kind,fun y hy e=>?_,fun y hy e=>?_,fun y hy e=>?_,len,fun k j x h1 h2=>?_,fun k x h1 h2=>?_⟩
 ·have:=List.all_eq_true.mp nocell y hy
  rw[e]at this;cases this
 ·have:=List.all_eq_true.mp names y hy
  rw[e]at this
  simpa using this
 ·have:=List.all_eq_true.mp free y hy
  rw[e]at this
  simpa using this
 ·have:=capk k (.cap j) x h1 h2
  simp only[Bool.and_eq_true,Bool.or_eq_true,beq_iff_eq]at this
  exact⟨this.1.1,this.1.2,this.2⟩
 ·have:=capk k .acc x h1 h2
  simpa using this
theorem Zoo{src:List BSrc}(k:Nat)(acc:src[k]? =some .acc)(uni:((List.range src.length).all fun i=>match src[i]? with
   |some .acc=>i==k
   |_=>true)=true):SrcOk src k:=⟨acc,fun i h=>by
  have hi:i<src.length:=(List.getElem?_eq_some_iff.mp h).1
  have:=List.all_eq_true.mp uni i (List.mem_range.mpr hi)
  rw[h]at this
  simpa using this⟩
theorem xg{tg:Expr}{g:FG}(h:∀Z:Ent X.K,PG X tg (Zdx Z g)):PG X tg (xG X.K g):=fun pins s σ H v u Q I r ⟨Z,q⟩=>h Z pins s σ H v u Q I r q
theorem xe{e:Expr}{f:FE}(h:∀Z:Ent X.K,PE X e (Zb Z f)):PE X e (xE X.K f):=fun pins s σ H Q I ⟨Z,q⟩=>h Z pins s σ H Q I q
theorem xt{e:Expr}{f:FT}(h:∀Z:Ent X.K,PT X e (Zw Z f)):PTs X [e] (xT X.K f):=fun pins s σ H Q I ⟨Z,q⟩=>Zrg (h Z) pins s σ H Q I q
theorem xt0:PTs X [] (xT X.K Zg0):=fun pins s σ H Q I ⟨Z,q⟩=>by
 obtain⟨F,δ,own,b,δ',sr,e,k⟩:=q
 cases e
 exact Zrf pins s σ H Q I (k H F own (Same.refl H) (Same.refl F) sr)
theorem Zl4{N':List Str}{scope:Scope}{src:List BSrc}{k:Nat}{tg elt iter:Expr}{ifs:List Expr}{fi:FD}{g:FG}{tt:FT}{te:FE}(hc:X.calm=true)(S:CompScope X N' scope src)(So:SrcOk src k)(hk:k∉g.tch)(hi:PI X tg iter (Zci Z fi))
  (hg:∀(C:Addr) (s₀:Shared) (H₀:Hp) (ex:List Addr),PG (X.block N' scope C s₀ H₀ ex) tg (xG X.K g)) (ht:∀(C:Addr) (s₀:Shared) (H₀:Hp) (ex:List Addr),PTs (X.block N' scope C s₀ H₀ ex) ifs (xT X.K tt)) (he:∀(C:Addr) (s₀:Shared) (H₀:Hp) (ex:List Addr),PE (X.block N' scope C s₀ H₀ ex) elt (xE X.K te))
  (hs:∀x,foldedSetIterable iter X.env x=pure x:=by intro _;rfl):PE X (.ListComp elt [⟨tg,iter,ifs,0⟩] scope pos) (Zb Z (Zib src k fi g tt te)):=(Zrh hc S hi hg ht he hs).imp fun _ _ _ h=>Zpx So hk h
theorem Zbb:PSs X [] (Zy Z Zch):=Zqv.imp fun _ _ _ h=>Zu4 h
theorem Zf{st:Stmt}{rest:List Stmt}{f g:FS}(h1:PS X st (Zy Z f))(h2:PSs X rest (Zy Z g)):PSs X (st::rest) (Zy Z (seqF f g)):=(Znv h1 h2).imp fun _ _ _ h=>Zx8 h
theorem Zn{st:Stmt}{f:FS}(h:PS X st (Zy Z f)):PSs X [st] (Zy Z f):=Zqw h
noncomputable def Z0m:FS:=fun _=>none
theorem Zaz(h:PE X a (Zb Z fa)):PS X (.Return (some a) pos) (Zy Z (retF fa)):=(Zt0 h).imp fun _ _ _ h=>Zya h
theorem s_if{t:FT}{f g:FS}{bt be:List Stmt}(hc:PT X c (Zw Z t))(ha:PSs X bt (Zy Z f))(hb:PSs X be (Zy Z g)):PS X (.If c bt be pos) (Zy Z (ifS t f g)):=(Zxh hc ha hb).imp fun _ _ _ h=>Zx9 h
theorem Zad(i:Nat){x:Str}{pos':Pos}(hN:X.N.Nodup)(he:PE X a (Zb Z fa))(hi:X.N[i]? =some x:=by rfl)(hx:Loc X.env.scope x:=by first|exact Or.inl rfl|exact Or.inr rfl)(hs:swapsWith a (some (.Name x pos')) pos.line X.env=pure false:=by rfl)(hf:X.fn x=true∨X.env.scope.names.lookup x=some .local:=by first|exact .inl rfl|exact .inr rfl):
  PS X (.Assign [.Name x pos'] a pos) (Zy Z (setF i fa)):=(Zt4 hN hi hx he hs hf).imp fun _ _ _ h=>Zu5 h
theorem Zl5(i:Nat){N':List Str}{scope:Scope}{src:List BSrc}{k:Nat}{tg elt iter:Expr}{ifs:List Expr}{fi:FD}{g:FG}{tt:FT}{te:FE}{y:Str}{py spos:Pos}(hc:X.calm=true)(S:CompScope X N' scope src)(So:SrcOk src k)(hk:k∉g.tch)(hi:PI X tg iter (Zci Z fi))
  (hg:∀(C:Addr) (s₀:Shared) (H₀:Hp) (ex:List Addr),PG (X.block N' scope C s₀ H₀ ex) tg (xG X.K g)) (ht:∀(C:Addr) (s₀:Shared) (H₀:Hp) (ex:List Addr),PTs (X.block N' scope C s₀ H₀ ex) ifs (xT X.K tt)) (he:∀(C:Addr) (s₀:Shared) (H₀:Hp) (ex:List Addr),PE (X.block N' scope C s₀ H₀ ex) elt (xE X.K te))
  (hN:X.N.Nodup) (hiy:X.N[i]? =some y:=by rfl) (hx:X.env.scope.names.lookup y=some .local:=by rfl) (hsw:swapsWith (.ListComp elt [⟨tg,iter,ifs,0⟩] scope pos) (some (.Name y py)) spos.line X.env=pure true:=by rfl)
  (hs:∀x,foldedSetIterable iter X.env x=pure x:=by intro _;rfl):PS X (.Assign [.Name y py] (.ListComp elt [⟨tg,iter,ifs,0⟩] scope pos) spos) (Zy Z (setF i (Zib src k fi g tt te))):=
 (Zkg hc S hi hg ht he hN hiy hx hsw hs).imp fun D σ H h=>by
  obtain⟨F,δ,own,rv,δ',s,e,q⟩:=Zu5 h
  exact Zpx So hk ⟨F,δ,own,rv,δ',s,e,q⟩
theorem Zop{tg:Expr}{g:FG}(he:PE X a (Zb Z fa))(hg:PG X tg (Zdx Z g))(hs:swapsWithSole [tg] a pos.line X.env=pure false:=by rfl)(hw:swappedStores [tg] a X.env=pure none:=by rfl)(h1:(assignEach [tg] X.env).map (·.2)=[assign tg X.env]:=by rfl):
  PS X (.Assign [tg] a pos) (Zy Z (Zh8 g fa)):=(Zpp he hg hs hw h1).imp fun _ _ _ h=>Zod h
theorem Zfv{tg iter:Expr}{body:List Stmt}{fi:FD}{g:FG}{f:FS}(hp:PassesOwn (model X.prog X.w) X.A X.env X.xe)(hc:X.calm=true)(hi:PI X tg iter (Zci Z fi))(hg:PG X tg (Zdx Z g))(hb:PSs X body (Zy Z f))(hs:∀x,foldedSetIterable iter X.env x=pure x:=by intro _;rfl):
  PS X (.For tg iter body [] pos) (Zy Z (forF fi g f)):=(Zt6 hp hc hi hg hb hs).imp fun _ _ _ h=>Zyb h
theorem Zrw(n:Nat){t:FT}{body:List Stmt}{f:FS}(hp:PassesOwn (model X.prog X.w) X.A X.env X.xe)(hc:PT X c (Zw Z t))(hb:PSs X body (Zy Z f)):PS X (.While c body [] pos) (Zy Z (Zb1 t f n)):=(Znx hp hc hb).imp fun _ _ _ h=>Zrl h
theorem Zif(i:Nat){x:Str}{px apos cpos:Pos}(hb:PE X b (Zb Z fb))(hN:X.N[i]? =some x:=by rfl)(hv:Vis X.env.scope x:=by first|exact Or.inl rfl|exact Or.inr (Or.inl rfl)|exact Or.inr (Or.inr rfl))(hd:(x==("__debug__":Str))=false:=by decide)
  (hcd:(x==("__classdict__":Str))=false:=by decide) (hbase:attributeBase (.Name x px) "append" X.env (eval (.Name x px) X.env)=eval (.Name x px) X.env:=by rfl)
  (hfew:((backTo cpos (starEach [b] X.env)).all (fun x=>!x.1)&&(backToKw cpos (keywordEach [] X.env)).all (fun x=>x.1.isSome)&&decide ([b].length+([]:List Keyword).length+(if([]:List Keyword).isEmpty then 0 else 1)<30))=true:=by rfl)
  (hline:(apos.endLine==cpos.line)=true:=by rfl) (hs:starEach [b] X.env=(false,eval b X.env)::starEach [] X.env:=by rfl) (hpl:(backTo cpos (starEach [] X.env)).any (·.1)=false:=by rfl) (hsw:swapsWith (.Call (.Attribute (.Name x px) "append" apos) [b] [] cpos) none pos.line X.env=pure false:=by rfl):
  PS X (.Expr (.Call (.Attribute (.Name x px) "append" apos) [b] [] cpos) pos) (Zy Z (appF i fb)):=
 (Zqx (Zn5 PySem.F.plainAttrs_list PySem.F.slot_list_append PySem.F.type_list_append Zgu (Zi2 (i:=i) hN hv hd hcd) (Zh0 hb Zle hs) hbase hfew hline hs hpl) hsw).imp fun _ _ _ h=>Zyc h
end
@[simp] noncomputable def Zck(f:FS)(n:Nat)(ds:List D):Option SV:=match f (Zgz n ds)with
 |some (.rt sv)=>some sv
 |some (.nx _)=>some (.fz .non)
 |_=>none
theorem Zoq{N:List Str}{n:Nat}{f:FS}{vs:List V}{H:Hp}{Q:VK}{E:XK}(h:spOf K n (Zck f N.length) vs H Q E):∃F,Zy (ent H F:Ent K) f {nx:=fun _ H'=>Q .non H',rt:=Q} (L2.Zdv N vs) H:=by
 obtain⟨F,ds,sv,le,r,hn,e,k⟩:=h
 unfold Zck at e
 split at e
 ·rename_i sw hf
  cases e
  exact⟨F,F,_,_,.rt sv,Zjb (N:=N) le r,hf,fun v H' F' ns a b c d e' nd ok=>k v H' F' ns d a b c e' nd ok⟩
 ·rename_i δ hf
  cases e
  exact⟨F,F,_,_,.nx δ,Zjb (N:=N) le r,hf,fun σ' H' F' own' a s'=>k .non H' F' [] s'.old a s'.le s'.fro (.fz .non) List.nodup_nil fun _ h=>(nomatch h)⟩
 ·cases e
noncomputable def Z14(K:PySem.W.Frag):Sp:=fun vs H Q _=>∃(a:Addr) (ns:List Int),vs=[.ref a]∧SqL K H a (ns.map V.int)∧ns.length≤63∧∀H',Q (.bl true) H'
theorem Zjd{F:Hp}:∀ns:List Int,Reps K F (ns.map D.int) (ns.map V.int)
 | []=>.nil
 |n::r=>.cons (.int n) (Zjd r)
end DL
namespace DL
open PySem PySem.Spec PyProof.Rows L2
variable{K:PySem.W.Frag}
@[simp] noncomputable def Zkm(f:D→D→Option Bool):List D→List D→Option Bool
 |x::xs,y::ys=>(f x y).bind fun b=>(Zkm f xs ys).bind fun c=>some (b&&c)
 |_,_=>some true
@[simp] noncomputable def Zeh(f:D→D→Option Bool):D→D→Option Bool
 | .lst xs,.lst ys=>if xs.length=ys.length then Zkm f xs ys else some false
 | .tup xs,.tup ys=>(Zkm f xs ys).bind fun b=>some (b&&decide (xs.length=ys.length))
 | .lst _,.tup _=>some false
 | .tup _,.lst _=>some false
 |d1,d2=>eqS d1 d2
@[simp] noncomputable def eqN:Nat→D→D→Option Bool
 |0=>fun _ _=>none
 |n+1=>Zeh (eqN n)
theorem Zfw{F H:Hp}{d1 d2:D}{x y:V}{b:Bool}(e:eqS d1 d2=some b)(r1:RepN K F H d1 x)(r2:RepN K F H d2 y):Z5 x=true∧Z5 y=true∧b=eqV x y:=by
 unfold eqS at e
 split at e<;> cases e<;> (first|obtain rfl:=r1.non|obtain rfl:=r1.int|obtain rfl:=r1.bl|obtain rfl:=r1.str)<;> (first|obtain rfl:=r2.non|obtain rfl:=r2.int|obtain rfl:=r2.bl|obtain rfl:=r2.str)<;> refine⟨rfl,rfl,?_⟩<;> first|rfl|simp[eqV]
section
variable{X:Cx}{pins:List (Addr×Obj)}{σ:L2.St}{F H:Hp}{s:Shared}
theorem Zor{x y:V}{v:Value}(rx:RelV x v)(ry:RelV y v)(fx:Z5 x=true)(fy:Z5 y=true):eqV x y=true:=by
 cases x with
 |non=>cases rx;cases y with
  |non=>rfl
  |bl b=>cases ry
  |int b=>obtain⟨t,e⟩:=ry;cases e
  |str b=>obtain⟨t,e⟩:=ry;cases e
  |_=>cases fy
 |bl a=>cases rx;cases y with
  |non=>cases ry
  |bl b=>cases ry;simp[eqV]
  |int b=>obtain⟨t,e⟩:=ry;cases e
  |str b=>obtain⟨t,e⟩:=ry;cases e
  |_=>cases fy
 |int a=>obtain⟨t,rfl⟩:=rx;cases y with
  |non=>cases ry
  |bl b=>cases ry
  |int b=>obtain⟨t,e⟩:=ry;cases e;simp[eqV]
  |str b=>obtain⟨t,e⟩:=ry;cases e
  |_=>cases fy
 |str a=>obtain⟨t,rfl⟩:=rx;cases y with
  |non=>cases ry
  |bl b=>cases ry
  |int b=>obtain⟨t,e⟩:=ry;cases e
  |str b=>obtain⟨t,e⟩:=ry;cases e;simp[eqV]
  |_=>cases fy
 |_=>cases fx
theorem Zkn{h:Heap}{a:Addr}{i1 i2:Array Value}(h1:h.IsList a i1)(h2:h.IsList a i2):i1=i2:=by
 obtain⟨o,e1,c1,n1,d1⟩:=h1
 obtain⟨o2,e2,c2,n2,d2⟩:=h2
 rw[e1]at e2;cases e2
 rw[d1]at d2;cases d2;rfl
theorem Zig{h:Heap}{a:Addr}{i1 i2:Array Value}(h1:h.IsTuple a i1)(h2:h.IsTuple a i2):i1=i2:=by
 obtain⟨o,e1,c1,n1,d1⟩:=h1
 obtain⟨o2,e2,c2,n2,d2⟩:=h2
 rw[e1]at e2;cases e2
 rw[d1]at d2;cases d2;rfl
theorem Zl6{f:D→D→Option Bool}(hf:∀d1 d2 b x y v,Rep X.K F d1 x→RelV x v→Rep X.K F d2 y→RelV y v→f d1 d2=some b→b=true){xs:List D}:∀{ys:List D} {vs ws:List V} {us:List Value} {b:Bool},Reps X.K F xs vs→Vals vs us→Reps X.K F ys ws→Vals ws us→Zkm f xs ys=some b→b=true:=by
 induction xs with
 |nil=>intro ys vs ws us b _ _ _ _ e;cases e;rfl
 |cons x xs ih=>
  intro ys vs ws us b r1 v1 r2 v2 e
  cases r1 with
  |cons h1 t1=>
   cases v1 with
   |cons a1 w1=>
    cases v2 with
    |cons a2 w2=>
     cases r2 with
     |cons h2 t2=>
      obtain⟨b,e1,e2⟩:=Option.bind_eq_some_iff.mp e
      obtain⟨c,e3,e4⟩:=Option.bind_eq_some_iff.mp e2
      cases e4
      rw[hf _ _ _ _ _ _ h1 a1 h2 a2 e1,ih t1 w1 t2 w2 e3];rfl
theorem Zl7(I:Inv X pins σ H s)(le:Same F H){f:D→D→Option Bool}(ih:∀(d1 d2:D) (b:Bool) (x y:V) (v:Value),Rep X.K F d1 x→RelV x v→Rep X.K F d2 y→RelV y v→f d1 d2=some b→b=true)(d1 d2:D)(b:Bool)(x y:V)(v:Value)(r1:Rep X.K F d1 x)(v1:RelV x v)(r2:Rep X.K F d2 y)(v2:RelV y v)(e:Zeh f d1 d2=some b):b=true:=by
  unfold Zeh at e
  split at e
  ·rename_i xs ys
   cases r1 with
   |lst q1 p1=>
   cases r2 with
   |lst q2 p2=>
   cases v1;cases v2
   obtain⟨i1,w1,l1,_⟩:=I.list (Zav le q1)
   obtain⟨i2,w2,l2,_⟩:=I.list (Zav le q2)
   have z:=Zkn l1.isList l2.isList
   have z:i1=i2:=by simpa using z
   subst z
   split at e
   ·exact Zl6 (ih) p1 w1 p2 w2 e
   ·rename_i hl
    have h1:=w1.length
    have h2:=w2.length
    have h3:=p1.length
    have h4:=p2.length
    exact absurd (by omega) hl
  ·rename_i xs ys
   cases r1 with
   |tup q1 p1=>
   cases r2 with
   |tup q2 p2=>
   cases v1;cases v2
   obtain⟨i1,w1,l1,_⟩:=I.tuple (Zaw le (Zez q1))
   obtain⟨i2,w2,l2,_⟩:=I.tuple (Zaw le (Zez q2))
   have z:=Zig l1 l2
   have z:i1=i2:=by simpa using z
   subst z
   obtain⟨c,e1,e2⟩:=Option.bind_eq_some_iff.mp e
   cases e2
   have h1:=w1.length
   have h2:=w2.length
   have h3:=p1.length
   have h4:=p2.length
   rw[Zl6 (ih) p1 w1 p2 w2 e1,decide_eq_true (by omega)];rfl
  ·cases r1 with
   |lst q1 p1=>
   cases r2 with
   |tup q2 p2=>
   cases v1;cases v2
   obtain⟨i1,w1,l1,_⟩:=I.list (Zav le q1)
   obtain⟨i2,w2,l2,_⟩:=I.tuple (Zaw le (Zez q2))
   exact absurd rfl (SeqAt.ne_of_list_tuple (s:=s) l1.isList l2)
  ·cases r1 with
   |tup q1 p1=>
   cases r2 with
   |lst q2 p2=>
   cases v1;cases v2
   obtain⟨i1,w1,l1,_⟩:=I.tuple (Zaw le (Zez q1))
   obtain⟨i2,w2,l2,_⟩:=I.list (Zav le q2)
   exact absurd rfl (SeqAt.ne_of_list_tuple (s:=s) l2.isList l1)
  ·obtain⟨f1,f2,rfl⟩:=Zfw (H:=H) e (RepN.of r1) (RepN.of r2)
   exact Zor v1 v2 f1 f2
theorem Zje{A:Around}{f:D→D→Option Bool}(hf:∀d1 d2 b x y v u,Rep X.K F d1 x→RelV x v→Rep X.K F d2 y→RelV y u→f d1 d2=some b→SeqAt.EqAt A s v u b){xs:List D}:∀{ys:List D} {vs ws:List V} {us zs:List Value} {b:Bool},Reps X.K F xs vs→Vals vs us→Reps X.K F ys ws→Vals ws zs→Zkm f xs ys=some b→
  ∃e:Nat→Bool,(∀j (h1:j<us.length) (h2:j<zs.length),SeqAt.EqAt A s us[j] zs[j] (e j))∧(List.range (min us.length zs.length)).all e=b:=by
 induction xs with
 |nil=>
  intro ys vs ws us zs b r1 v1 _ _ e
  cases r1
  cases v1
  cases e
  exact⟨fun _=>true,fun j h1=>absurd h1 (Nat.not_lt_zero _),by rw[List.length_nil,Nat.zero_min];rfl⟩
 |cons x xs ih=>
  intro ys vs ws us zs b r1 v1 r2 v2 e
  cases r1 with
  |cons h1 t1=>
   cases v1 with
   |cons a1 w1=>
    cases v2 with
    |nil=>
     cases r2
     cases e
     exact⟨fun _=>true,fun j _ h2=>absurd h2 (Nat.not_lt_zero _),by rw[List.length_nil,Nat.min_zero];rfl⟩
    |cons a2 w2=>
     cases r2 with
     |cons h2 t2=>
      obtain⟨b,e1,e2⟩:=Option.bind_eq_some_iff.mp e
      obtain⟨c,e3,e4⟩:=Option.bind_eq_some_iff.mp e2
      cases e4
      obtain⟨g,g1,g2⟩:=ih t1 w1 t2 w2 e3
      refine⟨fun j=>Nat.casesOn j b g,fun j h1 h2=>?_,?_⟩
      ·cases j with
       |zero=>exact hf _ _ _ _ _ _ _ ‹_› a1 ‹_› a2 e1
       |succ j=>exact g1 j (Nat.lt_of_succ_lt_succ h1) (Nat.lt_of_succ_lt_succ h2)
      ·rw[List.length_cons,List.length_cons,Nat.succ_min_succ,List.range_succ_eq_map,List.all_cons,List.all_map,←g2]
       rfl
theorem rcN(I:Inv X pins σ H s)(le:Same F H){A:Around}{f:D→D→Option Bool}{d1 d2:D}{b:Bool}{x y:V}{v u:Value}
  (ih:∀d1 d2 b x y v u,Rep X.K F d1 x→RelV x v→Rep X.K F d2 y→RelV y u→f d1 d2=some b→SeqAt.EqAt A.in1 s v u b) (r1:RepN X.K F H d1 x) (v1:RelV x v) (r2:RepN X.K F H d2 y) (v2:RelV y u)
  (e:Zeh f d1 d2=some b) (hu:A.units<cLine) (hr:Z5 x=false∨Z5 y=false):(∃a c,v= .ref a∧u= .ref c)∧SeqAt.RcAt A s v u b∧SeqAt.RcNeAt A s v u (!b):=by
 unfold Zeh at e
 split at e
 ·obtain⟨a1,vs1,rfl,q1,p1⟩:=r1.lst le
  obtain⟨a2,vs2,rfl,q2,p2⟩:=r2.lst le
  cases v1;cases v2
  obtain⟨i1,w1,l1,_⟩:=I.list q1
  obtain⟨i2,w2,l2,_⟩:=I.list q2
  have h1:=w1.length
  have h2:=w2.length
  have h3:=p1.length
  have h4:=p2.length
  refine⟨⟨_,_,rfl,rfl⟩,?_⟩
  split at e
  ·rename_i hl
   obtain⟨g,g1,g2⟩:=Zje ih p1 w1 p2 w2 e
   have hm:min i1.length i2.length=i1.toArray.size:=by simp;omega
   rw[hm]at g2
   subst g2
   have hz:i1.toArray.size=i2.toArray.size:=by simp;omega
   exact⟨SeqAt.RcAt.lists l1.isList l2.isList hz hu (fun j j1 j2=>by simpa using g1 j (by simpa using j1) (by simpa using j2)),SeqAt.RcNeAt.lists l1.isList l2.isList hz hu (fun j j1 j2=>by simpa using g1 j (by simpa using j1) (by simpa using j2))⟩
  ·rename_i hl
   cases e
   have hz:(i1.toArray.size !=i2.toArray.size)=true:=by simp;omega
   exact⟨SeqAt.RcAt.lists_lengths l1.isList l2.isList hz hu,SeqAt.RcNeAt.lists_lengths l1.isList l2.isList hz hu⟩
 ·rename_i xs ys
  obtain⟨a1,vs1,rfl,q1,p1⟩:=r1.tup le
  obtain⟨a2,vs2,rfl,q2,p2⟩:=r2.tup le
  cases v1;cases v2
  obtain⟨i1,w1,l1,_⟩:=I.tuple q1
  obtain⟨i2,w2,l2,_⟩:=I.tuple q2
  have h1:=w1.length
  have h2:=w2.length
  have h3:=p1.length
  have h4:=p2.length
  obtain⟨c,e1,e2⟩:=Option.bind_eq_some_iff.mp e
  cases e2
  refine⟨⟨_,_,rfl,rfl⟩,?_⟩
  obtain⟨g,g1,g2⟩:=Zje ih p1 w1 p2 w2 e1
  subst g2
  have e3:((List.range (min i1.length i2.length)).all g&&decide (xs.length=ys.length))=((List.range (min i1.toArray.size i2.toArray.size)).all g&&i1.toArray.size==i2.toArray.size):=by
   have:(i1.toArray.size==i2.toArray.size)=decide (xs.length=ys.length):=by
    rw[List.size_toArray,List.size_toArray,←h1,←h2,←h3,←h4];rfl
   rw[this];simp
  rw[e3]
  exact⟨SeqAt.RcAt.tuples l1 l2 hu (fun j j1 j2=>by simpa using g1 j (by simpa using j1) (by simpa using j2)),SeqAt.RcNeAt.tuples l1 l2 hu (fun j j1 j2=>by simpa using g1 j (by simpa using j1) (by simpa using j2))⟩
 ·obtain⟨a1,vs1,rfl,q1,p1⟩:=r1.lst le
  obtain⟨a2,vs2,rfl,q2,p2⟩:=r2.tup le
  cases v1;cases v2
  cases e
  obtain⟨i1,w1,l1,_⟩:=I.list q1
  obtain⟨i2,w2,l2,_⟩:=I.tuple q2
  exact⟨⟨_,_,rfl,rfl⟩,SeqAt.RcAt.list_tuple l1.isList l2 hu,SeqAt.RcNeAt.list_tuple l1.isList l2 hu⟩
 ·obtain⟨a1,vs1,rfl,q1,p1⟩:=r1.tup le
  obtain⟨a2,vs2,rfl,q2,p2⟩:=r2.lst le
  cases v1;cases v2
  cases e
  obtain⟨i1,w1,l1,_⟩:=I.tuple q1
  obtain⟨i2,w2,l2,_⟩:=I.list q2
  exact⟨⟨_,_,rfl,rfl⟩,SeqAt.RcAt.tuple_list l1 l2.isList hu,SeqAt.RcNeAt.tuple_list l1 l2.isList hu⟩
 ·obtain⟨f1,f2,_⟩:=Zfw e r1 r2
  rcases hr with hr|hr
  ·rw[f1]at hr;cases hr
  ·rw[f2]at hr;cases hr
noncomputable def rEqN(K:PySem.W.Frag)(neg:Bool):R2:=fun x y H Q=>∃F d1 d2 b,Same F H∧RepN K F H d1 x∧RepN K F H d2 y∧eqN 48 d1 d2=some b∧(Z5 x=false∨Z5 y=false)∧Q (.bl (if neg then !b else b)) H
end
@[simp] noncomputable def D.isFlat:D→Bool
 | .non=>true| .bl _=>true| .int _=>true| .str _=>true|_=>false
@[simp] noncomputable def eqX(d1 d2:D):Option SV:=if d1.isFlat=true∧d2.isFlat=true then eqD d1 d2 else(eqN 48 d1 d2).bind fun b=>some (.fz (.bl b))
@[simp] noncomputable def neX(d1 d2:D):Option SV:=if d1.isFlat=true∧d2.isFlat=true then neD d1 d2 else(eqN 48 d1 d2).bind fun b=>some (.fz (.bl !b))
theorem Zfc{F H:Hp}{d:D}{x:V}(r:RepN K F H d x)(h:d.isFlat=false):Z5 x=false:=by
 obtain⟨sv,ns,e,n,sh,hp⟩:=r
 cases sh with
 |fz r=>cases e;cases r<;> first|rfl|cases h
 |ol r=>rfl
 |oK e' r=>rfl
 |oT kb e' r=>rfl
 |oN e' r=>rfl
 |oL _ r=>rfl
 |oQ e' r=>rfl
section
variable{Z:Ent K}
@[simp] noncomputable def negD:D→Option SV
 | .int i=>some (.fz (.int (-i)))
 |_=>none
theorem Zyp:Zu1 Z (rU fun i=>.int (-i)) negD:=by
 intro F H σ δ own x d sv Q s r e k
 unfold negD at e
 split at e
 ·cases e;exact⟨_,r.int,k.fz s (.int _)⟩
 ·cases e
end
section
variable{X:Cx}{Z:Ent X.K}{a b c:Expr}{fa fb fc:FE}{pos:Pos}
theorem Zl8(ha:PE X a (Zb Z fa)):PE X (.UnaryOp .USub a pos) (Zb Z (unF negD fa)):=(Zxj Zub ha).imp fun _ _ _ h=>l_un Zyp h
end
end DL
namespace L2
open PySem PySem.Spec PyProof.Rows
section
variable{X:Cx}{tg:Expr}
noncomputable def Its(z:Str):It:=⟨fun i _=>i<z.length,fun i H x H'=>H'=H∧∃c,z.cps[i]? =some c∧x= .str ⟨#[c]⟩,fun i _=>z.length≤i⟩
theorem Zl9{P:Program}{w:World}{K:PySem.W.Frag}{tg:Expr}(z:Str)(t:Tok)(it:Addr):Turn P w K tg (Its z) [it] it (fun i h=>h.IsStrIter it (strIterType z) z t i)where
 mem:=by simp
 obj:=fun i h st b hb=>by
  have e:b=it:=by simpa using hb
  subst e
  obtain⟨o,e,c,d⟩:=st
  exact⟨o,e,fun v q=>by rw[d]at q;cases q⟩
 keep:=fun i h h' st k=>by
  obtain⟨o,e,c,d⟩:=st
  exact⟨o,k it (by simp) o e,c,d⟩
 item:=by
  intro X hP hw hK hc i pins s σ H E I hf st hg
  subst hP hw hK
  obtain⟨f0,f1,f2,f3,f4,f5⟩:=hf it (by simp)
  have hlt:i<z.cps.size:=hg
  have hx:z.cps[i]? =some z.cps[i]:=by simp[hlt]
  have fin:∀h',h'.IsStrIter it (strIterType z) z t (i+1)→Heap.SameBut it s.heap h'→∃u,some (Value.str ⟨#[z.cps[i]]⟩ s.toks)=some u∧wpAny (model X.prog X.w) X.A (letOwnedTupleGo tg (.ref it) u) (fun _ s2=>∃x H',Inv X pins σ H' s2∧RelV x u∧(Its z).yld i H x H'∧s2.heap.IsStrIter it (strIterType z) z t (i+1)∧∀b∈[it],H' b=none) E {s with heap:=h',toks:=s.toks+1}:=fun h' st' sb=>by
   have I1:Inv X pins σ H {s with heap:=h',toks:=s.toks+1}:=I.turned (t':=s.toks+1) (fun b o hb q=>(sb.2 b hb).trans q) f0 f1 f3 f4 f5
   obtain⟨o,e,c,d⟩:=id st'
   have hn:["enumerate","zip","dict_itemiterator","dict_reverseitemiterator","odict_iterator","itertools.zip_longest","itertools.pairwise"].contains (strIterType z)=false:=by
    unfold strIterType
    split<;> decide
   exact⟨_,rfl,Zny (s:={s with heap:=h',toks:=s.toks+1}) e c d hn ⟨.str ⟨#[z.cps[i]]⟩,H,I1,⟨_,rfl⟩,⟨rfl,_,hx,rfl⟩,st',fun b hb=>(hf b hb).1⟩⟩
  cases ha:z.cps.all (· <128)with
  |false=>
   have et:strIterType z="str_iterator":=by unfold strIterType;rw[ha];rfl
   rw[et]at st fin
   rw[et]
   exact wpAny_pyNext_wide_item st hx fin
  |true=>
   have et:strIterType z="str_ascii_iterator":=by unfold strIterType;rw[ha];rfl
   rw[et]at st fin
   rw[et]
   exact wpAny_pyNext_ascii_item st hx fin
 done:=by
  intro X hP hw hK hc i pins s σ H E I hf st hg
  subst hP hw hK
  obtain⟨f0,f1,f2,f3,f4,f5⟩:=hf it (by simp)
  have hge:z.cps.size≤i:=hg
  have hx:z.cps[i]? =none:=by simp[hge]
  cases ha:z.cps.all (· <128)with
  |false=>
   have et:strIterType z="str_iterator":=by unfold strIterType;rw[ha];rfl
   rw[et]at st
   exact wpAny_pyNext_wide_end (I.ok.hd hc) st hx fun h' eb=>⟨rfl,I.turned (t':=s.toks) (fun b o hb q=>eb b o hb q) f0 f1 f3 f4 f5⟩
  |true=>
   have et:strIterType z="str_ascii_iterator":=by unfold strIterType;rw[ha];rfl
   rw[et]at st
   exact wpAny_pyNext_ascii_end (I.ok.hd hc) st hx fun h' eb=>⟨rfl,I.turned (t':=s.toks) (fun b o hb q=>eb b o hb q) f0 f1 f3 f4 f5⟩
 self:=fun _ _ _ _ _ st h=>by
  cases ha:z.cps.all (· <128)with
  |false=>
   have et:strIterType z="str_iterator":=by unfold strIterType;rw[ha];rfl
   rw[et]at st
   exact wpAny_pyIter_striter_wide st h
  |true=>
   have et:strIterType z="str_ascii_iterator":=by unfold strIterType;rw[ha];rfl
   rw[et]at st
   exact wpAny_pyIter_striter_ascii st h
noncomputable def iAny(K:PySem.W.Frag)(tl:TE):TI:=fun σ H R=>tl σ H fun x H1=>(∃a,x= .ref a∧(∃xs,SqL K H1 a xs)∧R (Itl K a) H1)∨(∃a,x= .ref a∧(∃xs,SqT K H1 a xs)∧R (Itt K a) H1)∨(∃z,x= .str z∧R (Its z) H1)
theorem Zvm{l:Expr}{tl:TE}(hl:PE X l tl):PI X tg l (iAny X.K tl):=by
 intro pins s σ H R I h
 refine thn (hl pins s σ H _ I h) fun v s1 zq9=>?_
 obtain⟨x,H1,I1,r1,q1⟩:=zq9
 rcases q1 with⟨a,e,⟨xs,hq⟩,q⟩|⟨a,e,⟨xs,hq⟩,q⟩|⟨z,e,q⟩
 ·subst e
  cases r1
  obtain⟨its,rv,p,hz⟩:=I1.list hq
  refine wpAny_pyIter_list p.isList ?_
  refine⟨s1.heap.objs.size,[s1.heap.objs.size],_,_,H1,rfl,I1.kept (t':=s1.toks) fun b o e=>Heap.get?_push_of_some _ e,Zk7 a _,⟨_,Heap.get?_push_size _ rfl,rfl,rfl⟩,fun b hb=>?_,q⟩
  have e:b=s1.heap.objs.size:=by simpa using hb
  subst e
  exact I1.fpOk (Nat.le_refl _) (I1.hok.fresh (Nat.le_refl _))
 ·subst e
  cases r1
  obtain⟨its,rv,p,hz⟩:=I1.tuple hq
  refine wpAny_pyIter_tuple (show s1.heap.IsTuple a its.toArray from p) ?_
  refine⟨s1.heap.objs.size,[s1.heap.objs.size],_,_,H1,rfl,I1.kept (t':=s1.toks) fun b o e=>Heap.get?_push_of_some _ e,Zka a _,⟨_,Heap.get?_push_size _ rfl,rfl,rfl⟩,fun b hb=>?_,q⟩
  have e:b=s1.heap.objs.size:=by simpa using hb
  subst e
  exact I1.fpOk (Nat.le_refl _) (I1.hok.fresh (Nat.le_refl _))
 ·subst e
  obtain⟨t,rfl⟩:=r1
  refine wpAny_pyIter_strU ?_
  refine⟨s1.heap.objs.size,[s1.heap.objs.size],_,_,H1,rfl,I1.kept (t':=s1.toks) fun b o e=>Heap.get?_push_of_some _ e,Zl9 z t _,⟨_,Heap.get?_push_size _ rfl,rfl,rfl⟩,fun b hb=>?_,q⟩
  have e:b=s1.heap.objs.size:=by simpa using hb
  subst e
  exact I1.fpOk (Nat.le_refl _) (I1.hok.fresh (Nat.le_refl _))
noncomputable def Z0n:V→List V→Hp→VK→Prop:=fun x xs H Q=>∃a b,x= .str a∧xs=[.str b]∧(b.length==0)=false∧a.length≤sizeLine∧(Txt.split a b).length≤sizeLine∧∀p,H p=none→Q (.ref p) (upd H p (.lst ((Txt.split a b).map V.str)))
noncomputable def Zvn:V→List V→Hp→VK→Prop:=fun x xs H Q=>∃a b,x= .str a∧xs=[.str b]∧(b.length==0)=false∧a.length≤sizeLine∧∀p,H p=none→Q (.ref p) (upd H p (.tup [.str (Txt.partition a b).1,.str (Txt.partition a b).2.1,.str (Txt.partition a b).2.2]))
theorem Inv.tnew{pins:List (Addr×Obj)}{σ:L2.St}{H:Hp}{s:Shared}{ys:List V}{its:List Value}{t':Nat}(I:Inv X pins σ H s)(hv:Vals ys its)(hz:ys.length≤sizeLine):
  Inv X pins σ (upd H s.heap.objs.size (.tup ys)) {s with heap:=s.heap.push {cls:=.type "tuple",data:=.seq its.toArray},toks:=t'}:=
 I.laid (fun _ _ q=>Heap.get?_push_of_some _ q) (Nat.le_refl _) ⟨hz,its,hv,⟨_,Heap.get?_push_size _ rfl,rfl,_,rfl⟩⟩
theorem Zrx:MtR X "str.partition" Zvn:=by
 intro pins s σ H x xs v us Q I rx rs h
 obtain⟨a,b,rfl,rfl,hb,ha,q⟩:=h
 obtain⟨t,rfl⟩:=rx
 obtain⟨u,rfl,ru⟩:=Zey rs
 obtain⟨t',rfl⟩:=ru
 refine call_meets F.slot_str_partition (typeIs_str _ _ _) F.entry_str_partition (F.args_str_partition_2 _ _) (meets_str_partition a b t t' hb ha) ?_
 unfold Txt.partition at q
 cases e:Builtin.Str.occurrences a b 0 a.length 1 with
 |nil=>
  rw[e]at q
  exact⟨.ref _,_,I.tnew (t':=s.toks+1) (ys:=[.str a,.str Str.empty,.str Str.empty]) (its:=[.str a t,.str Str.empty s.toks,.str Str.empty s.toks]) (.cons ⟨_,rfl⟩ (.cons ⟨_,rfl⟩ (.cons ⟨_,rfl⟩ .nil))) (by show 3≤sizeLine;decide),rfl,q _ I.fresh⟩
 |cons i r=>
  rw[e]at q
  exact⟨.ref _,_,I.tnew (t':=s.toks+1+1) (ys:=[.str (Builtin.Str.strSub a 0 i),.str b,.str (Builtin.Str.strSub a (i+b.length) a.length)]) (its:=[.str (Builtin.Str.strSub a 0 i) s.toks,.str b t',.str (Builtin.Str.strSub a (i+b.length) a.length) (s.toks+1)]) (.cons ⟨_,rfl⟩ (.cons ⟨_,rfl⟩ (.cons ⟨_,rfl⟩ .nil))) (by show 3≤sizeLine;decide),rfl,q _ I.fresh⟩
noncomputable def rAll(K:PySem.W.Frag):List V→Hp→VK→Prop:=fun xs H Q=>∃(p:Addr) (bs:List Bool),xs=[.ref p]∧SqL K H p (bs.map V.bl)∧Q (.bl (bs.all id)) H
end
end L2
namespace DL
open PySem PySem.Spec PyProof.Rows L2
variable{K:PySem.W.Frag}
noncomputable def Zma(z:Str):List D:=z.cps.toList.map fun c=>.str ⟨#[c]⟩
theorem Zih{z:Str}{F:Hp}:Zec K (Its z) F (Zma z):=fun F' H sF sH i=>by
 have hl:(Zma z).length=z.length:=by unfold Zma;rw[List.length_map];rfl
 refine⟨fun d hd=>?_,fun h=>by rw[hl]at h;exact h⟩
 have hi:i<z.length:=by
  have:=(List.getElem?_eq_some_iff.mp hd).1
  rw[hl]at this;exact this
 refine⟨hi,fun x H' zq9=>?_⟩
 obtain⟨e1,c,e2,e3⟩:=zq9
 subst e1 e3
 unfold Zma at hd
 rw[List.getElem?_map]at hd
 have e4:z.cps.toList[i]? =some c:=by simpa using e2
 rw[e4]at hd
 cases hd
 exact⟨Same.refl _,[],List.nodup_nil,fun _ h=>(nomatch h),.str _⟩
section
variable{Z:Ent K}{H:Hp}{σ:L2.St}{Q:VK}{E:Ends}
@[simp] noncomputable def anyI(fe:FE):FD:=fun δ=>(fe δ).bind fun p=>(frz p.1 p.2).bind fun q=>match q.1 with
 | .lst xs=>some (xs,q.2)
 | .tup xs=>some (xs,q.2)
 | .str z=>some (Zma z,q.2)
 |_=>none
theorem Zvo{fe:FE}{R:It→Hp→Prop}(h:Zci Z (anyI fe) σ H R):iAny K (Zb Z fe) σ H R:=by
 obtain⟨F,δ,own,ds,δ',s,e,k⟩:=h
 obtain⟨⟨rv,δ1⟩,e1,e2⟩:=Option.bind_eq_some_iff.mp e
 obtain⟨⟨d,δ2⟩,e3,e4⟩:=Option.bind_eq_some_iff.mp e2
 refine⟨F,δ,own,rv,δ1,s,e1,fun v H1 F1 own1 sH sF s1 r1=>?_⟩
 obtain⟨F2,sF2,s2,r2⟩:=s1.settleR r1
 obtain⟨F3,own3,sF3,s3,r3⟩:=s2.frzR r2 e3
 dsimp only at e4
 split at e4
 ·cases e4
  cases r3 with
  |lst h r=>exact .inl ⟨_,rfl,⟨_,Zav s3.le h⟩,k _ H1 F3 own3 sH (sF.trans (sF2.trans sF3)) s3 (Zh9 h r)⟩
 ·cases e4
  cases r3 with
  |tup h r=>exact .inr (.inl ⟨_,rfl,⟨_,Zaw s3.le (Zez h)⟩,k _ H1 F3 own3 sH (sF.trans (sF2.trans sF3)) s3 (Zkj (Zez h) r)⟩)
 ·cases e4
  cases r3 with
  |str x=>exact .inr (.inr ⟨_,rfl,k _ H1 F3 own3 sH (sF.trans (sF2.trans sF3)) s3 Zih⟩)
 ·cases e4
@[simp] noncomputable def inS(i j:Str):Bool:=!(Builtin.Str.occurrences j i 0 j.length 1).isEmpty
@[simp] noncomputable def inD:D→D→Option SV
 | .str i,.str j=>some (.fz (.bl (inS i j)))
 |_,_=>none
@[simp] noncomputable def Zjf:D→D→Option SV
 | .str i,.str j=>some (.fz (.bl (!inS i j)))
 |_,_=>none
theorem p_in:Zaf Z (fun x y H Q=>∃i j,x= .str i∧y= .str j∧Q (.bl (!(Builtin.Str.occurrences j i 0 j.length 1).isEmpty)) H) inD:=by
 intro F H σ δ own x y d1 d2 sv Q s r1 r2 e k
 unfold inD at e
 split at e
 ·cases e;exact⟨_,_,r1.str,r2.str,k.fz s (.bl _)⟩
 ·cases e
theorem Zry:Zaf Z (fun x y H Q=>∃i j,x= .str i∧y= .str j∧Q (.bl (!(!(Builtin.Str.occurrences j i 0 j.length 1).isEmpty))) H) Zjf:=by
 intro F H σ δ own x y d1 d2 sv Q s r1 r2 e k
 unfold Zjf at e
 split at e
 ·cases e;exact⟨_,_,r1.str,r2.str,k.fz s (.bl _)⟩
 ·cases e
@[simp] noncomputable def Z0o:List D→Option SV
 | [.str a,.str b]=>if(b.length==0)=false∧a.length≤PySem.sizeLine∧(Txt.split a b).length≤PySem.sizeLine then some (.ol ((Txt.split a b).map D.str))else none
 |_=>none
@[simp] noncomputable def Zar:List D→Option SV
 | [.str a,.str b]=>if(b.length==0)=false∧a.length≤PySem.sizeLine then some (.fz (.tup [.str (Txt.partition a b).1,.str (Txt.partition a b).2.1,.str (Txt.partition a b).2.2]))else none
 |_=>none
theorem Zii:Zrs Z Zvn Zar:=by
 intro F H σ δ own vs ds sv Q s r e k
 unfold Zar at e
 split at e
 ·rename_i a b
  split at e
  ·rename_i h
   cases e
   cases r with
   |cons h1 t=>cases t with
    |cons h2 t=>cases t;exact⟨_,_,rfl,a,b,h1.str,by rw[h2.str],h.1,h.2,fun p hp=>k.tup s (.cons (.str _) (.cons (.str _) (.cons (.str _) .nil))) hp⟩
  ·cases e
 ·cases e
@[simp] noncomputable def bools?:List D→Option (List Bool)
 | []=>some []
 | .bl x::r=>(bools? r).bind fun t=>some (x::t)
 |_=>none
@[simp] noncomputable def allD:List D→Option SV
 | [.lst xs]=>(bools? xs).bind fun bs=>some (.fz (.bl (bs.all id)))
 |_=>none
@[simp] noncomputable def Z0p(i:Nat):FS:=fun δ=>match δ[i]? with
 |some (some (.ol _))=>some (.nx (δ.set i (some (.ol []))))
 |_=>none
end
section
variable{X:Cx}{Z:Ent X.K}{a b c:Expr}{fa fb fc:FE}{pos:Pos}{tg:Expr}
theorem Zko(ha:PE X a (Zb Z fa)):PI X tg a (Zci Z (anyI fa)):=fun pins s σ H R I h=>Zvm ha pins s σ H R I (Zvo h)
theorem Zbq{apos cpos:Pos}(ha:PE X a (Zb Z fa))(hb:PE X b (Zb Z fb))(hbase:attributeBase a "partition" X.env (eval a X.env)=eval a X.env:=by rfl)
  (hfew:((backTo cpos (starEach [b] X.env)).all (fun x=>!x.1)&&(backToKw cpos (keywordEach [] X.env)).all (fun x=>x.1.isSome)&&decide ([b].length+([]:List Keyword).length+(if([]:List Keyword).isEmpty then 0 else 1)<30))=true:=by rfl)
  (hline:(apos.endLine==cpos.line)=true:=by rfl) (hs:starEach [b] X.env=(false,eval b X.env)::starEach [] X.env:=by rfl) (hpl:(backTo cpos (starEach [] X.env)).any (·.1)=false:=by rfl):
  PE X (.Call (.Attribute a "partition" apos) [b] [] cpos) (Zb Z (bmF "str" Zar fa (Zd fb Zh))):=
 (Zn5 PySem.F.plainAttrs_str PySem.F.slot_str_partition PySem.F.type_str_partition Zrx ha (Zm hb Za7 hs) hbase hfew hline hs hpl).imp fun _ _ _ h=>l_bm Zii h
end
end DL
namespace L2
open PySem PySem.Spec PyProof.Rows
open AutoSeq1 (wpAny_loadPart')
section
variable{prog:Program}{w:World}{A:Around}{E:Value→Shared→Prop}{s:Shared}
theorem Zei{it t:Addr}{i:Nat}{items:Array Value}{x:Value}{Q:Value→Shared→Prop}(hit:s.heap.IsTupleIter it t i)(ht:s.heap.IsTuple t items)(hx:items[i]? =some x)
  (hQ:∀h',h'.IsTupleIter it t (i+1)→Heap.SameBut it s.heap h'→Q x {s with heap:=h'}):wpAny (model prog w) A (Builtin.SmallTypes.nextOf (.ref it)) Q E s:=by
 obtain⟨o,ho,hc,hd⟩:=id hit;obtain⟨ol,hol,_,nl,hdl⟩:=ht;unfold Builtin.SmallTypes.nextOf
 refine wpAny_bind (wpAny_callSpecial?_slot (name:=Str.ofString "__next__") hit.typeIs F.slot_tuple_iterator_next (wpAny_call_entry F.slot_tuple_iterator_next hit.typeIs F.entry_tuple_iterator_next ?_ (F.args_tuple_iterator_next_1 _)))
 show wpAny _ _ (field (.ref it) 0 >>=_) _ _ s;refine wpAny_bind (wpAny_field ho hd (x:=.ref t) rfl ?_)
 show wpAny _ _ (if(Value.ref t==Value.none)=true then _ else _) _ _ s;rw[if_neg (show¬((Value.ref t==Value.none)=true)from Bool.false_ne_true)]
 show wpAny _ _ (field (.ref it) 1 >>=_) _ _ s;refine wpAny_bind (wpAny_field ho hd (x:=.int i 0) rfl ?_)
 show wpAny _ _ (seqItems? (.ref t) >>=_) _ _ s;refine wpAny_bind (wpAny_seqItems hol hdl ?_);simp only[Int.toNat_natCast,hx]
 refine wpAny_bind (wpAny_setField ho hd (by simp) (wpAny_pure ⟨x,rfl,wpAny_pure (hQ _ ⟨_,Heap.get?_update_self _ ho (Obj.isFreed_of_fields (Obj.data_mapFields hd _)),(Obj.cls_mapFields ..).trans hc,by rw[Obj.data_mapFields hd];simp[rawInt]⟩ (Heap.SameBut.update ..))⟩))
theorem Zcl{it t:Addr}{i:Nat}{items:Array Value}{Q:Value→Shared→Prop}(hh:A.handled=none)(hit:s.heap.IsTupleIter it t i)(ht:s.heap.IsTuple t items)(hx:items[i]? =none)
  (hE:∀h' e,Heap.ExtBut it s.heap h'→(∃o,h'.get? e=some o∧o.cls= .type "StopIteration")→E (.ref e) {s with heap:=h'}):wpAny (model prog w) A (Builtin.SmallTypes.nextOf (.ref it)) Q E s:=by
 obtain⟨o,ho,hc,hd⟩:=id hit;obtain⟨ol,hol,_,nl,hdl⟩:=ht;unfold Builtin.SmallTypes.nextOf
 refine wpAny_bind (wpAny_callSpecial?_slot (name:=Str.ofString "__next__") hit.typeIs F.slot_tuple_iterator_next (wpAny_call_entry F.slot_tuple_iterator_next hit.typeIs F.entry_tuple_iterator_next ?_ (F.args_tuple_iterator_next_1 _)))
 show wpAny _ _ (field (.ref it) 0 >>=_) _ _ s;refine wpAny_bind (wpAny_field ho hd (x:=.ref t) rfl ?_)
 show wpAny _ _ (if(Value.ref t==Value.none)=true then _ else _) _ _ s;rw[if_neg (show¬((Value.ref t==Value.none)=true)from Bool.false_ne_true)]
 show wpAny _ _ (field (.ref it) 1 >>=_) _ _ s;refine wpAny_bind (wpAny_field ho hd (x:=.int i 0) rfl ?_)
 show wpAny _ _ (seqItems? (.ref t) >>=_) _ _ s;refine wpAny_bind (wpAny_seqItems hol hdl ?_);simp only[Int.toNat_natCast,hx]
 refine wpAny_bind (wpAny_rule (wpAny_bind (wpAny_setField ho hd (by simp) ?_)));show wpAny _ _ (newExc (.type "StopIteration") [] >>=_) _ _ _
 refine wpAny_bind ?_;simp only[newExc,newTuple];refine wpAny_bind (wpAny_newObj_type ?_ (by size_fits))
 refine wpAny_bind (m:=firstArgMember _ _) (wpAny_of_eq (a:=Value.none) (by first|rfl| (simp only[firstArgMember];rfl)) ?_);refine wpAny_newObj_type ?_ (by size_fits)
 simp only[raiseNew];refine wpAny_bind (wpAny_handled ?_);first|rw[show A.in1.handled=none from hh]|rw[hh]
 refine wpAny_bind (wpAny_pure (wpAny_throw ?_));exact hE _ _ (((Heap.SameBut.update ..).extBut.push _).push _) ⟨_,Heap.get?_push_size _ rfl,rfl⟩
theorem Zij{h h':Heap}{t it:Addr}{items:Array Value}(x:h.IsTuple t items)(hs:Heap.ExtBut it h h')(hne:t≠it):h'.IsTuple t items:=let⟨o,ho,r⟩:=x;⟨o,hs t o hne ho,r⟩
theorem Zmb{prog:Program}{w:World}{A:Around}(hh:A.handled=none)(it l:Addr)(hne:l≠it)(items:Array Value):
  Draws prog w A it [it,l] items.size (fun i v=>items[i]? =some v) (fun i h=>h.IsTupleIter it l i∧h.IsTuple l items)where
 live:=fun _ _ st=>let⟨o,ho,_⟩:=st.1;⟨o,ho⟩
 frame:=fun _ _ _ st hk=>⟨st.1.at fun o e=>hk it (by simp) o e,let⟨o,ho,r⟩:=st.2;⟨o,hk l (by simp) o ho,r⟩⟩
 item:=fun i s Q E hi st hQ=>by
  refine Zei st.1 st.2 (x:=items[i]) (by simp[hi]) fun h' hit' hs'=>?_
  exact hQ _ h' s.toks (by simp[hi]) ⟨hit',Zij st.2 hs'.extBut hne⟩ hs'
 done:=fun s Q E st hE=>Zcl hh st.1 st.2 (by simp) hE
theorem Zg5(l:Addr)(items:Array Value)(n:Nat)(dct:Option Addr)(sl:Array (Option Value)):
  Meets (Builtin.«enumerate.__new__» ⟨[.type "enumerate",.ref l],[]⟩) (fun _ R s=>s.heap.get? l=some {cls:=.type "tuple",dict:=dct,data:=.seq items n,slots:=sl}∧
   R (.ok (.ret (.ref (s.heap.push {cls:=.type "tuple_iterator",data:=.fields #[.ref l,.int 0 0]}).objs.size))) {s with heap:=(s.heap.push {cls:=.type "tuple_iterator",data:=.fields #[.ref l,.int 0 0]}).push {cls:=.type "enumerate",data:=.fields #[.none,.bool false,.ref s.heap.objs.size,rawInt 0,.none,.none]}}):=
 .of_wp fun prog w A R s h=>by
  obtain⟨hp,g,d,tk,os⟩:=s;obtain⟨hl,h⟩:=h;have hsub:=sub_enumerate
  have hL:Heap.IsTuple (Shared.heap ⟨hp,g,d,tk,os⟩) l items:=⟨_,hl,rfl,n,rfl⟩
  wp_walk using wpAny_loadPart' hl
  refine wpAny_stack_any fun st=>wpAny_pure ?_;split
  ·rename_i c _ _ _ _ _
   cases(c==Value.type "enumerate")
   ·wp_walk using wpAny_loadPart' hl,wpAny_pyIter_tuple hL
    exact⟨_,rfl,h⟩
   ·wp_walk using wpAny_loadPart' hl,wpAny_pyIter_tuple hL
    exact⟨_,rfl,h⟩
  ·wp_walk using wpAny_loadPart' hl,wpAny_pyIter_tuple hL
   exact⟨_,rfl,h⟩
theorem Zfx{l:Addr}{items:Array Value}{Q:Value→Shared→Prop}(hL:s.heap.IsTuple l items)
  (h:∀h',IsEnum h' (s.heap.objs.size+1) s.heap.objs.size 0 .none→h'.IsTupleIter s.heap.objs.size l 0→h'.objs.size=s.heap.objs.size+2→(∀b o,s.heap.get? b=some o→h'.get? b=some o)→Q (.ref (s.heap.objs.size+1)) {s with heap:=h'}):
  wpAny (model prog w) A (call (.type "enumerate") [.ref l]) Q E s:=by
 obtain⟨⟨c,dct,dt,sl⟩,hl,hc,n,hd⟩:=hL;replace hc:c= .type "tuple":=hc;replace hd:dt= .seq items n:=hd;subst hc hd
 refine callType_new F.called_enumerate (by decide) (F.typeCall_enumerate_1 _) (F.newCall_enumerate_1 _) (fun obj=>F.args_object_init_2 obj _) F.entry_enumerate_new (Zg5 l items n dct sl) ⟨hl,?_⟩
 have hz:(s.heap.push {cls:=.type "tuple_iterator",data:=.fields #[.ref l,.int 0 0]}).objs.size=s.heap.objs.size+1:=Heap.size_push ..
 show _∧_;rw[hz]
 have he:IsEnum ((s.heap.push {cls:=.type "tuple_iterator",data:=.fields #[.ref l,.int 0 0]}).push {cls:=.type "enumerate",data:=.fields #[.none,.bool false,.ref s.heap.objs.size,rawInt 0,.none,.none]}) (s.heap.objs.size+1) s.heap.objs.size 0 .none:=by
  have:=Heap.get?_push_size (s.heap.push {cls:=.type "tuple_iterator",data:=.fields #[.ref l,.int 0 0]}) (o:={cls:=.type "enumerate",data:=.fields #[.none,.bool false,.ref s.heap.objs.size,rawInt 0,.none,.none]}) rfl
  rw[hz]at this;exact this
 exact⟨⟨_,he,rfl⟩,h _ he ⟨_,Heap.get?_push_of_some _ (Heap.get?_push_size _ rfl),rfl,rfl⟩ (by rw[Heap.size_push,hz]) fun b o x=>Heap.get?_push_of_some _ (Heap.get?_push_of_some _ x)⟩
theorem Zg6{e it l:Addr}{i:Nat}{items:Array Value}{old:Value}{Q:Option Value→Shared→Prop}(hh:A.handled=none)(he:IsEnum s.heap e it i old)(hit:s.heap.IsTupleIter it l i)(hl:s.heap.IsTuple l items)(hx:items[i]? =none)
  (hQ:∀h',Heap.ExtBut it s.heap h'→Q none {s with heap:=h'}):wpAny (model prog w) A (pyNext (.ref e)) Q E s:=by
 have hT:s.TypeIs (.ref e) "enumerate":=⟨_,he,rfl⟩;unfold pyNext
 refine wpAny_bind (wpAny_attempt (wpAny_callSpecial?_slot (name:=Str.ofString "__next__") hT F.slot_enumerate_next (wpAny_call_entry F.slot_enumerate_next hT F.entry_enumerate_next ?_ (F.args_enumerate_next_1 _))))
 show wpAny _ _ (field (.ref e) 2 >>=_) _ _ _;refine wpAny_bind (wpAny_field he rfl (x:=.ref it) rfl ?_)
 refine wpAny_bind (Zcl (by first|exact hh| (rw[show A.in1.handled=A.handled from rfl];exact hh)) hit hl hx fun h' x he' hx'=>?_);obtain⟨o,ho,hc⟩:=hx'
 refine wpAny_bind (wpAny_isInstance (T:="StopIteration") (b:=true) ⟨o,ho,hc⟩ isSubtype_stop ?_);exact wpAny_pure (hQ _ he')
end
section
variable{X:Cx}{tg:Expr}
noncomputable def IteT(K:PySem.W.Frag)(a:Addr):It:=
 ⟨fun i H=>∃xs x,SqT K H a xs∧xs[i]? =some x,fun i H x H'=>∃p v,x= .ref p∧H p=none∧H'=upd H p (.tup [.int (i:Nat),v])∧∀xs,SqT K H a xs→xs[i]? =some v,fun i H=>∃xs,SqT K H a xs∧xs.length≤i⟩
theorem Zkp{P:Program}{w:World}{K:PySem.W.Frag}{elts:List Expr}{kk:Nat}{tpos:Pos}(a e it:Addr)(hei:e≠it):Turn P w K (.Tuple elts kk tpos) (IteT K a) [e,it] e (fun i h=>(∃old,IsEnum h e it ((i:Nat):Int) old)∧h.IsTupleIter it a i)where
 mem:=by simp
 obj:=fun i h st b hb=>by
  have hb':b=e∨b=it:=by simpa using hb
  rcases hb' with z|z
  ·subst z
   obtain⟨old,q⟩:=st.1
   exact⟨_,q,fun v y=>by
    have y':Data.fields _=Data.cell v:=y
    cases y'⟩
  ·subst z
   obtain⟨o,q,c,d⟩:=st.2
   exact⟨o,q,fun v y=>by rw[d]at y;cases y⟩
 keep:=fun i h h' st k=>⟨let⟨old,q⟩:=st.1;⟨old,k e (by simp) _ q⟩,st.2.at fun o q=>k it (by simp) o q⟩
 item:=by
  intro X hP hw hK hc i pins s σ H E I hf st hg
  subst hP hw hK
  obtain⟨xs,x,hq,hx⟩:=hg
  obtain⟨its,rv,p,hz⟩:=I.tuple hq
  obtain⟨u,hu,ru⟩:=rv.get hx
  obtain⟨⟨old,he⟩,hit⟩:=st
  have hl:s.heap.IsTuple a its.toArray:=p
  have ai:a≠it:=fun z=>by
   obtain⟨o1,q1,c1,_⟩:=hit
   obtain⟨o2,q2,c2,_⟩:=hl
   rw[z,q1]at q2;cases q2
   rw[c1]at c2;exact absurd c2 (by decide)
  have ae:e∉[it,a]:=fun z=>by
   have z':e=it∨e=a:=by simpa using z
   rcases z' with z|z
   ·exact hei z
   ·obtain⟨o2,q2,c2,_⟩:=hl
    rw[←z,he]at q2;cases q2;exact absurd (show Value.type "enumerate"=Value.type "tuple"from c2) (by decide)
  have D:=Zmb (prog:=X.prog) (w:=X.w) (A:=X.A.in1) (by first|exact I.ok.hd hc| (rw[show X.A.in1.handled=X.A.handled from rfl];exact I.ok.hd hc)) it a ai its.toArray
  have hlt:i<its.toArray.size:=by
   have:=(List.getElem?_eq_some_iff.mp hu).1
   rw[List.size_toArray];exact this
  refine wpAny_pyNext_enum_itemD D he ⟨hit,hl⟩ hlt hei ae fun y h' tk hy hout st' hT hsz hk=>⟨.ref s.heap.objs.size,rfl,?_⟩
  refine wpAny_letOwnedTupleGo_enum hout fun h2 he2 hs2=>?_
  have hy':its.toArray[i]? =some y:=hy
  have ey:y=u:=by
   have:its[i]? =some y:=by simpa using hy'
   rw[hu]at this;cases this;rfl
  subst ey
  have kk:∀b o,b≠e→b≠it→s.heap.get? b=some o→h2.get? b=some o:=fun b o h1 h3 q=>(hs2.2 b h1).trans (hk b o h1 h3 q)
  have neT:s.heap.objs.size≠e:=Nat.ne_of_gt (Heap.lt_size he)
  have I2:=I.turnedT (h':=h2) (t':=tk+1) (e:=e) (it:=it) (T:=s.heap.objs.size) (xs:=[.int (i:Nat),x]) (its:=[.int i tk,y]) kk (hf e (by simp)) (hf it (by simp)) rfl ⟨_,(hs2.2 _ neT).trans hT,rfl,_,rfl⟩ (.cons ⟨tk,rfl⟩ (.cons ru .nil)) (by show 2≤sizeLine;decide)
   ⟨_,he2⟩ (let⟨o,q,_⟩:=st'.1;⟨o,(hs2.2 it (Ne.symm hei)).trans q⟩)
  refine⟨.ref s.heap.objs.size,_,I2,rfl,⟨s.heap.objs.size,x,rfl,I.hok.fresh (Nat.le_refl _),rfl,fun ys hy2=>by rw[I.tuple_inj hy2 hq];exact hx⟩,⟨⟨_,he2⟩,st'.1.at fun o q=>(hs2.2 it (Ne.symm hei)).trans q⟩,fun b hb=>?_⟩
  rw[Zs fun z=>?_]
  ·exact(hf b hb).1
  ·have hb':b=e∨b=it:=by simpa using hb
   rcases hb' with y|y
   ·rw[←z,y]at neT;exact neT rfl
   ·obtain⟨o,q,_⟩:=hit
    rw[y]at z
    exact absurd (Heap.lt_size q) (by rw[z];exact Nat.lt_irrefl _)
 done:=by
  intro X hP hw hK hc i pins s σ H E I hf st hg
  subst hP hw hK
  obtain⟨xs,hq,hx⟩:=hg
  obtain⟨its,rv,p,hz⟩:=I.tuple hq
  obtain⟨⟨old,he⟩,hit⟩:=st
  obtain⟨f0,f1,f2,f3,f4,f5⟩:=hf it (by simp)
  have hl:=rv.length
  exact Zg6 (I.ok.hd hc) he hit (show s.heap.IsTuple a its.toArray from p) (by simp;omega) fun h' eb=>⟨rfl,I.turned (t':=s.toks) (fun b o hb q=>eb b o hb q) f0 f1 f3 f4 f5⟩
 self:=fun _ _ _ _ _ st h=>let⟨⟨old,he⟩,_⟩:=st;wpAny_pyIter_enum he h
noncomputable def Zp0(K:PySem.W.Frag)(ta:TA):TI:=fun σ H R=>ta σ H fun vs H1=>∃a xs,vs=[.ref a]∧SqT K H1 a xs∧R (IteT K a) H1
theorem Zos{l:Expr}{elts:List Expr}{kk:Nat}{tpos p pos:Pos}{ta:TA}(hg:Gl X "enumerate")(hm:X.mg "enumerate"=none)(ha:PA X [l] ta)(hs:starEach [l] X.env=[(false,eval l X.env)]:=by rfl):
  PI X (.Tuple elts kk tpos) (.Call (.Name "enumerate" p) [l] [] pos) (Zp0 X.K ta):=by
 intro pins s σ H R I h
 refine Call_ (Zd4 I hg hm boot_enumerate (PyProof.Rows.callWith_type1 (thn (ha pos pins s σ H _ I h) fun us s1 ⟨vs,H1,I1,r1,q1⟩=>?_) hs rfl))
 obtain⟨a,xs,e,hq,q⟩:=q1
 subst e
 obtain⟨u,rfl,ru⟩:=Zey r1
 cases ru
 obtain⟨its,rv,p,hz⟩:=I1.tuple hq
 refine Zfx (show s1.heap.IsTuple a its.toArray from p) fun h' he hit hsz hk=>wpAny_pyIter_enum he ?_
 have I2:Inv X pins σ H1 {s1 with heap:=h'}:=I1.kept (t':=s1.toks) hk
 refine⟨s1.heap.objs.size+1,[s1.heap.objs.size+1,s1.heap.objs.size],_,_,H1,rfl,I2,Zkp a _ _ (Nat.succ_ne_self _),⟨⟨.none,by simpa using he⟩,hit⟩,fun b hb=>?_,q⟩
 have hb':b=s1.heap.objs.size+1∨b=s1.heap.objs.size:=by simpa using hb
 rcases hb' with z|z
 ·subst z;exact I1.fpOk (Nat.le_succ _) (I1.hok.fresh (Nat.le_succ _))
 ·subst z;exact I1.fpOk (Nat.le_refl _) (I1.hok.fresh (Nat.le_refl _))
end
end L2
namespace DL
open PySem PySem.Spec PyProof.Rows L2
variable{K:PySem.W.Frag}
theorem Zg7{F:Hp}{a:Addr}{xs:List D}{vs:List V}(h:SqT K F a vs)(r:Reps K F xs vs):Zec K (IteT K a) F (Zeg xs):=fun F' H sF sH i=>by
 have q:SqT K H a vs:=Zaw (sF.trans sH) h
 refine⟨fun d hd=>?_,fun hl=>⟨vs,q,by rw[←r.length,←Zg2];exact hl⟩⟩
 obtain⟨x,hx,rfl⟩:=Zg1 hd
 obtain⟨v,h1,h2⟩:=r.get hx
 refine⟨⟨vs,v,q,h1⟩,fun y H' zq9=>?_⟩
 obtain⟨p,w,e1,e2,e3,e4⟩:=zq9
 subst e1 e3
 have e5:=e4 vs q
 rw[h1]at e5;cases e5
 have hp:F' p=none:=sH.free e2
 have sm:Same F' (addL F' [(p,.tup [.int (i:Nat),v])]):=Zax fun z hz=>by obtain rfl:=List.mem_singleton.mp hz;exact hp
 refine⟨Zcd e2,[(p,.tup [.int (i:Nat),v])],nd1,fun z hz=>?_,.tup Z9 (.cons (.int _) (.cons (h2.mono (sF.trans sm)) .nil))⟩
 obtain rfl:=List.mem_singleton.mp hz
 exact⟨e2,Z9⟩
section
variable{Z:Ent K}{H:Hp}{σ:L2.St}{Q:VK}
@[simp] noncomputable def Zp1(fd:FD):FD:=fun δ=>(fd δ).bind fun p=>match p.1 with
 | [.tup xs]=>some (Zeg xs,p.2)
 |_=>none
theorem Zot{fd:FD}{R:It→Hp→Prop}(h:Zci Z (Zp1 fd) σ H R):Zp0 K (Zcg Z fd) σ H R:=by
 obtain⟨F,δ,own,ds,δ',s,e,k⟩:=h
 obtain⟨⟨ds1,δ1⟩,e1,e2⟩:=Option.bind_eq_some_iff.mp e
 refine⟨F,δ,own,ds1,δ1,s,e1,fun vs H1 F1 own1 sH sF s1 r1=>?_⟩
 dsimp only at e2
 split at e2
 ·rename_i xs
  cases e2
  cases r1 with
  |cons h t=>
   cases t
   cases h with
   |tup h r=>exact⟨_,_,rfl,Zaw s1.le (Zez h),k _ H1 F1 own1 sH sF s1 (Zg7 (Zez h) r)⟩
 ·cases e2
end
section
variable{X:Cx}{Z:Ent X.K}{a:Expr}{fa:FE}{pos:Pos}
@[simp] noncomputable def Zg8(fd:FD):FD:=fun δ=>(fd δ).bind fun p=>match p.1 with
 | [.lst xs]=>some (Zeg xs,p.2)
 | [.tup xs]=>some (Zeg xs,p.2)
 |_=>none
theorem Zou{H:Hp}{σ:L2.St}{fd:FD}{R:It→Hp→Prop}(h:Zci Z (Zg8 fd) σ H R):Zci Z (Zvh fd) σ H R∨Zci Z (Zp1 fd) σ H R:=by
 obtain⟨F,δ,own,ds,δ',s,e,k⟩:=h
 obtain⟨⟨ds1,δ1⟩,e1,e2⟩:=Option.bind_eq_some_iff.mp e
 dsimp only at e2
 split at e2
 ·rename_i xs
  exact .inl ⟨F,δ,own,ds,δ',s,Option.bind_eq_some_iff.mpr ⟨_,e1,e2⟩,k⟩
 ·rename_i xs
  exact .inr ⟨F,δ,own,ds,δ',s,Option.bind_eq_some_iff.mpr ⟨_,e1,e2⟩,k⟩
 ·cases e2
theorem Zik{elts:List Expr}{kk:Nat}{tpos p:Pos}{fd:FD}(hm:X.mg "enumerate"=none)(ha:PA X [a] (Zcg Z fd))(hg:Gl X "enumerate":=by rfl)(hs:starEach [a] X.env=[(false,eval a X.env)]:=by rfl):
  PI X (.Tuple elts kk tpos) (.Call (.Name "enumerate" p) [a] [] pos) (Zci Z (Zg8 fd)):=fun pins s σ H R I h=>by
 rcases Zou h with h|h
 ·exact Zrq hg hm ha hs pins s σ H R I (Zrr h)
 ·exact Zos hg hm ha hs pins s σ H R I (Zot h)
end
end DL
namespace L2
open PySem PySem.Spec PyProof.Rows
variable{X:Cx}
noncomputable def Z0q(K:PySem.W.Frag):V→List V→Hp→VK→Prop:=fun x xs H Q=>∃sep p ys,x= .str sep∧xs=[.ref p]∧(SqL K H p (ys.map V.str)∨SqT K H p (ys.map V.str))∧JoinOk sep ys=true∧Q (.str (Txt.join sep ys)) H
end L2
namespace DL
open PySem PySem.Spec PyProof.Rows L2
variable{K:PySem.W.Frag}
@[simp] noncomputable def Z0r:List D→Option SV
 | [.str sep,.lst xs]=>(strs? xs).bind fun ys=>if JoinOk sep ys=true then some (.fz (.str (Txt.join sep ys)))else none
 | [.str sep,.tup xs]=>(strs? xs).bind fun ys=>if JoinOk sep ys=true then some (.fz (.str (Txt.join sep ys)))else none
 |_=>none
section
variable{X:Cx}{Z:Ent X.K}{a b:Expr}{fa fb:FE}
end
end DL
namespace L2
open PySem PySem.Spec PyProof.Rows
variable{X:Cx}
noncomputable def Zyq:R2:=fun x y H Q=>∃a v,x= .ref a∧DGet H a y (some v)∧Q v H
noncomputable def rDIn:R2:=fun y x H Q=>∃a o,x= .ref a∧DGet H a y o∧Q (.bl o.isSome) H
noncomputable def Zej:R2:=fun y x H Q=>∃a o,x= .ref a∧DGet H a y o∧Q (.bl (!o.isSome)) H
theorem Zfd(hu:X.A.units+1<cLine):OpR X (compareOp .In) rDIn:=by
 intro pins s σ H y x v u Q I ry rx h
 obtain⟨a,o,rfl,g,q⟩:=h
 cases rx
 exact d_in hu I g ry fun s' I'=>⟨.bl o.isSome,H,I',rfl,q⟩
theorem Zfy(hu:X.A.units+1<cLine):OpR X (compareOp .NotIn) Zej:=by
 intro pins s σ H y x v u Q I ry rx h
 obtain⟨a,o,rfl,g,q⟩:=h
 cases rx
 exact Zq9 hu I g ry fun s' I'=>⟨.bl (!o.isSome),H,I',rfl,q⟩
end L2
namespace DL
open PySem PySem.Spec PyProof.Rows L2
variable{K:PySem.W.Frag}
@[simp] noncomputable def D.key?:D→Option Key
 | .int i=>some (.inl i)
 | .str x=>some (.inr x)
 |_=>none
@[simp] noncomputable def keys?:List D→Option (List Key)
 | []=>some []
 |d::r=>d.key?.bind fun k=>(keys? r).bind fun t=>some (k::t)
section
variable{κ:Type}[DecidableEq κ]
@[simp] noncomputable def look(ks:List κ)(vs:List D)(k:κ):Option D:=match ks,vs with
 |a::ks,v::vs=>if a=k then some v else look ks vs k
 |_,_=>none
theorem Zil{F:Hp}(k:κ):∀(kvs:List (κ×V)) (ds:List D),Reps K F ds (kvs.map (·.2))→match look (kvs.map (·.1)) ds k with
  |some d=>∃v,valV kvs k=some v∧Rep K F d v
  |none=>valV kvs k=none
 | [],_,r=>by cases r;exact Zn6
 |p::kvs,_,r=>by
  cases r with
  | @cons d v ds vs h t=>
   show match(if p.1=k then some d else look (kvs.map (·.1)) ds k)with
    |some d=>∃v,valV (p::kvs) k=some v∧Rep K F d v
    |none=>valV (p::kvs) k=none
   by_cases e:p.1=k
   ·rw[if_pos e]
    exact⟨p.2,Zdy e,h⟩
   ·rw[if_neg e,Zdz e]
    exact Zil k kvs ds t
@[simp] noncomputable def putA(ks:List κ)(vs:List D)(k:κ)(v:D):List κ×List D:=
 if k∈ks then(ks,(ks.zip vs).map fun p=>if p.1=k then v else p.2)else(ks++[k],vs++[v])
theorem Reps.length_map{F:Hp}{α:Type}{ds:List D}{kvs:List (α×V)}(r:Reps K F ds (kvs.map (·.2))):ds.length=kvs.length:=by rw[r.length,List.length_map]
theorem Zmc{F:Hp}{k:κ}{d:D}{v:V}(hd:Rep K F d v):∀(kvs:List (κ×V)) (ds:List D),Reps K F ds (kvs.map (·.2))→
  Reps K F (((kvs.map (·.1)).zip ds).map fun p=>if p.1=k then d else p.2) ((kvs.map fun kv=>if kv.1=k then(kv.1,v)else kv).map (·.2))
 | [],_,r=>by cases r;exact .nil
 |p::kvs,_,r=>by
  cases r with
  | @cons d' v' ds vs h t=>
   have ih:=Zmc (k:=k) hd kvs ds t
   show Reps K F ((if p.1=k then d else d')::(((kvs.map (·.1)).zip ds).map fun p=>if p.1=k then d else p.2)) ((if p.1=k then(p.1,v)else p).2::((kvs.map fun kv=>if kv.1=k then(kv.1,v)else kv).map (·.2)))
   refine .cons ?_ ih
   by_cases e:p.1=k
   ·rw[if_pos e,if_pos e];exact hd
   ·rw[if_neg e,if_neg e];exact h
theorem Zov{k:κ}{v:V}(kvs:List (κ×V)):(kvs.map fun kv=>if kv.1=k then(kv.1,v)else kv).map (·.1)=kvs.map (·.1):=by
 rw[List.map_map]
 refine List.map_congr_left fun p _=>?_
 show(if p.1=k then(p.1,v)else p).1=p.1
 split<;> rfl
theorem Zmd(k:κ)(kvs:List (κ×V)):(kvs.any fun kv=>decide (kv.1=k))=true↔k∈kvs.map (·.1):=by
 rw[List.any_eq_true,List.mem_map]
 constructor
 ·rintro⟨p,h1,h2⟩;exact⟨p,h1,of_decide_eq_true h2⟩
 ·rintro⟨p,h1,h2⟩;exact⟨p,h1,decide_eq_true h2⟩
theorem Zfe{F:Hp}{k:κ}{d:D}{v:V}(hd:Rep K F d v)(kvs:List (κ×V))(ds:List D)(r:Reps K F ds (kvs.map (·.2))):
  (putK kvs k v).map (·.1)=(putA (kvs.map (·.1)) ds k d).1∧Reps K F (putA (kvs.map (·.1)) ds k d).2 ((putK kvs k v).map (·.2)):=by
 unfold putK putA
 by_cases h:k∈kvs.map (·.1)
 ·rw[if_pos h,if_pos ((Zmd k kvs).mpr h)]
  exact⟨Zov kvs,Zmc hd kvs ds r⟩
 ·rw[if_neg h,if_neg fun z=>h ((Zmd k kvs).mp z),List.map_append,List.map_append]
  exact⟨rfl,r.snoc hd⟩
end
theorem Zjg{F H:Hp}{d:D}{k:Key}{y:V}(e:d.key? =some k)(r:RepN K F H d y):y=kV k:=by
 cases d with
 |int i=>cases e;exact r.int
 |str x=>cases e;exact r.str
 |_=>cases e
theorem Zrz{F:Hp}{d:D}{k:Key}{y:V}(e:d.key? =some k)(r:Rep K F d y):y=kV k:=Zjg (H:=F) e (RepN.of r)
theorem Zim{F:Hp}:∀{ds:List D} {ks:List Key} {vs:List V},keys? ds=some ks→Reps K F ds vs→vs=ks.map kV
 | [],_,_,e,r=>by cases e;cases r;rfl
 |d::ds,_,_,e,r=>by
  cases r with
  |cons h t=>
   obtain⟨k,e1,e2⟩:=Option.bind_eq_some_iff.mp e
   obtain⟨t',e3,e4⟩:=Option.bind_eq_some_iff.mp e2
   cases e4
   rw[Zrz e1 h,Zim e3 t];rfl
theorem RepN.tupH{F H:Hp}{xs:List D}{v:V}(le:Same F H)(h:RepN K F H (.tup xs) v):∃a vs,v= .ref a∧H a=some (.tup vs)∧Reps K F xs vs:=by
 obtain⟨sv,ns,e,n,sh,hp⟩:=h
 cases sh with
 |fz r=>cases e;cases r with|tup h r=>exact⟨_,_,rfl,le _ _ h,r⟩
 |ol r=>cases e
 |oK e' r=>cases e
 |oT kb e' r=>cases e
 |oN e' r=>cases n
 |oL _ r=>cases n
 |oQ e' r=>cases e
@[simp] noncomputable def getO:D→D→Option (Option D)
 | .dK ks vs,d=>d.key?.bind fun k=>some (look ks vs k)
 | .dT ks vs,.tup xs=>(keys? xs).bind fun k=>some (look ks vs k)
 |_,_=>none
theorem Zg9{F H:Hp}{d1 d2:D}{x y:V}{o:Option D}(le:Same F H)(e:getO d1 d2=some o)(r1:RepN K F H d1 x)(r2:RepN K F H d2 y):
  ∃a,x= .ref a∧IsD H a∧match o with
   |some d=>∃v,DGet H a y (some v)∧Rep K F d v
   |none=>DGet H a y none:=by
 unfold getO at e
 split at e
 ·obtain⟨k,e1,e2⟩:=Option.bind_eq_some_iff.mp e
  obtain⟨a,kvs,rfl,ha,rfl,rr⟩:=r1.dK le
  refine⟨a,rfl,.inl ⟨kvs,ha.rd⟩,?_⟩
  rw[Zjg e1 r2]
  have z:=Zil k kvs _ rr
  have g:=DGet.k (k:=k) ha
  rw[Option.some.inj e2]at z
  cases o with
  |none=>rw[show valV kvs k=none from z]at g;exact g
  |some d=>obtain⟨v,z1,z2⟩:=z;rw[z1]at g;exact⟨v,g,z2⟩
 ·obtain⟨k,e1,e2⟩:=Option.bind_eq_some_iff.mp e
  obtain⟨a,kvs,rfl,ha,rfl,rr⟩:=r1.dT le
  obtain⟨b,vs,rfl,hb,rb⟩:=r2.tupH le
  refine⟨a,rfl,.inr ⟨kvs,ha.rd⟩,?_⟩
  rw[Zim e1 rb]at hb
  have z:=Zil k kvs _ rr
  have g:=DGet.t ha hb
  rw[Option.some.inj e2]at z
  cases o with
  |none=>rw[show valV kvs k=none from z]at g;exact g
  |some d=>obtain⟨v,z1,z2⟩:=z;rw[z1]at g;exact⟨v,g,z2⟩
 ·cases e
section
variable{Z:Ent K}
@[simp] noncomputable def Zr0(d1 d2:D):Option SV:=(getO d1 d2).bind fun o=>o.bind fun d=>some (.fz d)
theorem Zvp:Zaf Z Zyq Zr0:=by
 intro F H σ δ own x y d1 d2 sv Q s r1 r2 e k
 obtain⟨o,e1,e2⟩:=Option.bind_eq_some_iff.mp e
 obtain⟨d,e3,e4⟩:=Option.bind_eq_some_iff.mp e2
 cases e4
 subst e3
 obtain⟨a,rfl,_,v,g,rv⟩:=Zg9 s.le e1 r1 r2
 exact⟨a,v,rfl,g,k.fz s rv⟩
@[simp] noncomputable def inDd(d1 d2:D):Option SV:=(getO d2 d1).bind fun o=>some (.fz (.bl o.isSome))
@[simp] noncomputable def Zme(d1 d2:D):Option SV:=(getO d2 d1).bind fun o=>some (.fz (.bl (!o.isSome)))
theorem Zvq:Zaf Z rDIn inDd:=by
 intro F H σ δ own x y d1 d2 sv Q s r1 r2 e k
 obtain⟨o,e1,e2⟩:=Option.bind_eq_some_iff.mp e
 cases e2
 obtain⟨a,rfl,_,g⟩:=Zg9 s.le e1 r2 r1
 cases o with
 |none=>exact⟨a,none,rfl,g,k.fz s (.bl _)⟩
 |some d=>obtain⟨v,g,_⟩:=g;exact⟨a,some v,rfl,g,k.fz s (.bl _)⟩
theorem Zmf:Zaf Z Zej Zme:=by
 intro F H σ δ own x y d1 d2 sv Q s r1 r2 e k
 obtain⟨o,e1,e2⟩:=Option.bind_eq_some_iff.mp e
 cases e2
 obtain⟨a,rfl,_,g⟩:=Zg9 s.le e1 r2 r1
 cases o with
 |none=>exact⟨a,none,rfl,g,k.fz s (.bl _)⟩
 |some d=>obtain⟨v,g,_⟩:=g;exact⟨a,some v,rfl,g,k.fz s (.bl _)⟩
@[simp] noncomputable def D.isD:D→Bool
 | .dK _ _=>true| .dT _ _=>true|_=>false
@[simp] noncomputable def ixX(d1 d2:D):Option SV:=if d1.isD=true then Zr0 d1 d2 else ixD d1 d2
@[simp] noncomputable def inX(d1 d2:D):Option SV:=if d2.isD=true then inDd d1 d2 else inD d1 d2
@[simp] noncomputable def Zmg(d1 d2:D):Option SV:=if d2.isD=true then Zme d1 d2 else Zjf d1 d2
theorem Zmh{H:Hp}{σ:L2.St}{Q:VK}{fa fb:FE}{g g1 g2':D→D→Option SV}(hg:∀d1 d2 sv,g d1 d2=some sv→g1 d1 d2=some sv∨g2' d1 d2=some sv)(h:Zb Z (binF g fa fb) σ H Q):Zb Z (binF g1 fa fb) σ H Q∨Zb Z (binF g2' fa fb) σ H Q:=by
 obtain⟨F,δ,own,rv,δ',s,e,k⟩:=h
 obtain⟨⟨rvs,δ1⟩,e1,e2⟩:=Option.bind_eq_some_iff.mp e
 obtain⟨ds,e3,e4⟩:=Option.bind_eq_some_iff.mp e2
 obtain⟨sv,e5,e6⟩:=Option.bind_eq_some_iff.mp e4
 have:(g2 g1) ds=some sv∨(g2 g2') ds=some sv:=by
  unfold g2 at e5⊢
  split at e5
  ·exact hg _ _ _ e5
  ·cases e5
 rcases this with z|z
 ·exact .inl ⟨F,δ,own,rv,δ',s,Option.bind_eq_some_iff.mpr ⟨_,e1,Option.bind_eq_some_iff.mpr ⟨_,e3,Option.bind_eq_some_iff.mpr ⟨_,z,e6⟩⟩⟩,k⟩
 ·exact .inr ⟨F,δ,own,rv,δ',s,Option.bind_eq_some_iff.mpr ⟨_,e1,Option.bind_eq_some_iff.mpr ⟨_,e3,Option.bind_eq_some_iff.mpr ⟨_,z,e6⟩⟩⟩,k⟩
theorem Zyr:Zaf Z (fun x y H Q=>(∃i j,x= .str i∧y= .str j∧Q (.bl (!(Builtin.Str.occurrences j i 0 j.length 1).isEmpty)) H)∨rDIn x y H Q) inX:=by
 intro F H σ δ own x y d1 d2 sv Q s r1 r2 e k
 unfold inX at e
 split at e
 ·exact .inr (Zvq F H σ δ own x y d1 d2 sv Q s r1 r2 e k)
 ·exact .inl (p_in F H σ δ own x y d1 d2 sv Q s r1 r2 e k)
theorem Zow:Zaf Z (fun x y H Q=>(∃i j,x= .str i∧y= .str j∧Q (.bl (!(!(Builtin.Str.occurrences j i 0 j.length 1).isEmpty))) H)∨Zej x y H Q) Zmg:=by
 intro F H σ δ own x y d1 d2 sv Q s r1 r2 e k
 unfold Zmg at e
 split at e
 ·exact .inr (Zmf F H σ δ own x y d1 d2 sv Q s r1 r2 e k)
 ·exact .inl (Zry F H σ δ own x y d1 d2 sv Q s r1 r2 e k)
end
section
variable{X:Cx}{Z:Ent X.K}{a b c:Expr}{fa fb fc:FE}{pos:Pos}
theorem Zbl(hu:X.A.units+1<cLine)(ha:PE X a (Zb Z fa))(hb:PE X b (Zb Z fb))(hs:Zll b:=by intro _ _;rfl):PE X (.Subscript a b pos) (Zb Z (binF ixX fa fb)):=fun pins s σ H Q I h=>by
 rcases Zmh (g1:=Zr0) (g2':=ixD) (fun d1 d2 sv e=>by
  unfold ixX at e
  split at e
  ·exact .inl e
  ·exact .inr e) h with h|h
 ·exact Zrb hu ha hb hs pins s σ H Q I (Zlw Zvp h)
 ·exact Zxq Zup ha hb hs pins s σ H Q I (Zlw p_ix h)
end
end DL
namespace L2
open PySem PySem.Spec PyProof.Rows
variable{X:Cx}
noncomputable def Zp2:V→List V→Hp→VK→Prop:=fun x xs H Q=>∃a,x= .ref a∧((∃y o,xs=[y]∧DGet H a y o∧Q (o.getD .non) H)∨(∃y z o,xs=[y,z]∧DGet H a y o∧Q (o.getD z) H))
theorem Zr1(hu:X.A.units+1<cLine):MtR X "dict.get" Zp2:=by
 intro pins s σ H x xs v us Q I rx rs h
 obtain⟨a,rfl,h⟩:=h
 cases rx
 rcases h with⟨y,o,rfl,g,q⟩|⟨y,z,o,rfl,g,q⟩
 ·obtain⟨u,rfl,ru⟩:=Zey rs
  exact Zux hu I g ru fun w' s' I' r'=>⟨_,H,I',r',q⟩
 ·obtain⟨u,w',rfl,r1,r2⟩:=Zxn rs
  exact Zuy hu I g r1 r2 fun w' s' I' r'=>⟨_,H,I',r',q⟩
end L2
namespace DL
open PySem PySem.Spec PyProof.Rows L2
variable{K:PySem.W.Frag}
section
variable{Z:Ent K}{H:Hp}{σ:L2.St}{Q:VK}{E:Ends}
@[simp] noncomputable def Zr2:FE:=fun δ=>some (.tmp (.oK [] []),δ)
@[simp] noncomputable def Z15:FE:=fun δ=>some (.tmp (.oT [] []),δ)
theorem Zr3(h:Zb Z Zr2 σ H Q):Zpt σ H Q:=by
 obtain⟨F,δ,own,rv,δ',s,e,k⟩:=h
 cases e
 intro p hp
 have f:Fin Z F H σ δ own (.oK [] []) Q:=fun v H' F' ns a b c t=>k v H' F' own a b c ⟨ns,t⟩
 exact f.one s (.oK (kvs:=[]) rfl .nil) hp
@[simp] noncomputable def SV.isOD:Option (Option SV)→Bool
 |some (some (.oK _ _))=>true
 |some (some (.oT _ _))=>true
 |some (some (.oQ _ _ _))=>true
 |_=>false
@[simp] noncomputable def putS(kd d:D):Option (Option SV)→Option SV
 |some (some (.oK ks vs))=>kd.key?.bind fun k=>if vs.length<PySem.sizeLine then some (.oK (putA ks vs k d).1 (putA ks vs k d).2)else none
 |some (some (.oT ks vs))=>match kd with
  | .tup xs=>(keys? xs).bind fun k=>if vs.length<PySem.sizeLine then some (.oT (putA ks vs k d).1 (putA ks vs k d).2)else none
  |_=>none
 |some (some (.oQ q ks vs))=>kd.key?.bind fun k=>if vs.length<PySem.sizeLine then some (.oQ q (putA ks vs k d).1 (putA ks vs k d).2)else none
 |_=>none
@[simp] noncomputable def putF(i:Nat)(fk fv:FE):FS:=fun δ=>(fv δ).bind fun p=>(frz p.1 p.2).bind fun q=>if SV.isOD (q.2[i]?)=true then(fk q.2).bind fun r=>(rdv r.1 r.2).bind fun kd=>(putS kd q.1 (r.2[i]?)).bind fun sv=>some (.nx (r.2.set i (some sv)))else none
theorem Zox{F:Hp}{ks:List Key}{ds:List D}{v:V}{ns:Zl}(h:Shape K F (.oK ks ds) v ns):∃a kvs ep,v= .ref a∧ns=[(a,.dK kvs ep)]∧kvs.map (·.1)=ks∧Reps K F ds (kvs.map (·.2)):=by
 cases h with
 |oK e r=>exact⟨_,_,_,rfl,rfl,e,r⟩
theorem Zoy{F:Hp}{q:Addr}{ks:List Key}{ds:List D}{v:V}{ns:Zl}(h:Shape K F (.oQ q ks ds) v ns):∃kvs ep,v= .ref q∧ns=[(q,.dK kvs ep)]∧kvs.map (·.1)=ks∧Reps K F ds (kvs.map (·.2)):=by
 cases h with
 |oQ e r=>exact⟨_,_,rfl,rfl,e,r⟩
theorem Zoz{F:Hp}{ks:List (List Key)}{ds:List D}{v:V}{ns:Zl}(h:Shape K F (.oT ks ds) v ns):∃a kvs ep bs,v= .ref a∧ns=[(a,.dT kvs ep bs)]∧KB F kvs bs∧kvs.map (·.1)=ks∧Reps K F ds (kvs.map (·.2)):=by
 cases h with
 |oT kb e r=>exact⟨_,_,_,_,rfl,rfl,kb,e,r⟩
theorem KB.put{F:Hp}{kvs:List (List Key×V)}{bs:List Addr}{k:List Key}{b:Addr}{v:V}(h:KB F kvs bs)(hb:F b=some (.tup (k.map kV))):KB F (putK kvs k v) (putB kvs bs k b):=by
 unfold putK putB
 split
 ·unfold KB at*
  clear hb
  rename_i hq
  clear hq
  induction h with
  |nil=>exact .nil
  | @cons p c ps cs h1 t ih=>
   rw[List.map_cons]
   refine .cons ?_ ih
   by_cases e:p.1=k
   ·rw[if_pos e];exact h1
   ·rw[if_neg e];exact h1
 ·exact Paired.snoc h hb
theorem RepN.tupF{F H:Hp}{xs:List D}{v:V}(h:RepN K F H (.tup xs) v):∃a vs,v= .ref a∧F a=some (.tup vs)∧Reps K F xs vs:=by
 obtain⟨sv,ns,e,n,sh,hp⟩:=h
 cases sh with
 |fz r=>cases e;cases r with|tup h r=>exact⟨_,_,rfl,h,r⟩
 |ol r=>cases e
 |oK e' r=>cases e
 |oT kb e' r=>cases e
 |oN e' r=>cases n
 |oL _ r=>cases n
 |oQ e' r=>cases e
theorem Zr4{o:Option (Option SV)}(h:SV.isOD o=true):∃sv,o=some (some sv):=by
 unfold SV.isOD at h
 split at h
 ·exact⟨_,rfl⟩
 ·exact⟨_,rfl⟩
 ·exact⟨_,rfl⟩
 ·cases h
theorem Zys{i:Nat}{fk fv:FE}(h:Zy Z (putF i fk fv) E σ H):Zuw (tVar i) (Zb Z fk) (Zb Z fv) E σ H:=by
 obtain⟨F,δ,own,fl,s,e,k⟩:=h
 obtain⟨⟨rv,δ1⟩,e1,e⟩:=Option.bind_eq_some_iff.mp e
 obtain⟨⟨d,δ2⟩,e2,e⟩:=Option.bind_eq_some_iff.mp e
 dsimp only at e
 split at e
 ·rename_i hod
  obtain⟨⟨rk,δ3⟩,e3,e⟩:=Option.bind_eq_some_iff.mp e
  obtain⟨kd,e4,e⟩:=Option.bind_eq_some_iff.mp e
  obtain⟨sv,e5,e⟩:=Option.bind_eq_some_iff.mp e
  cases e
  refine⟨F,δ,own,rv,δ1,s,e1,fun v H1 F1 own1 sH1 sF1 s1 r1=>?_⟩
  obtain⟨F2,sF2,s2,r2⟩:=s1.settleR r1
  obtain⟨F3,own3,sF3,s3,r3⟩:=s2.frzR r2 e2
  obtain⟨sv0,hsv0⟩:=Zr4 hod
  obtain⟨x,hx,_⟩:=s3.at' i sv0 hsv0
  refine⟨x,hx,F3,δ2,own3,rk,δ3,s3,e3,fun y H4 F4 own4 sH4 sF4 s4 r4=>?_⟩
  obtain⟨F5,sF5,s5,r5⟩:=s4.settleR r4
  have rk':=s5.rd r5 e4
  have rd:Rep K F5 d v:=r3.mono (sF4.trans sF5)
  have sF:Same F F5:=sF1.trans (sF2.trans (sF3.trans (sF4.trans sF5)))
  dsimp only at e5
  generalize ho:δ3[i]? =o at e5
  unfold putS at e5
  split at e5
  ·rename_i ks vs
   obtain⟨kk,f1,f2⟩:=Option.bind_eq_some_iff.mp e5
   split at f2
   ·rename_i hz
    cases f2
    obtain⟨x',hx',sh⟩:=s5.at' i _ ho
    rw[hx]at hx';cases hx'
    obtain⟨a,kvs,ep0,ea,en,rfl,rr⟩:=Zox sh
    subst ea
    have mb:(a,HO.dK kvs ep0)∈own4 i:=by rw[en];exact List.mem_cons_self
    have hH:=(s5.ok i _ mb).2.2
    have z:=Zfe (k:=kk) rd kvs vs rr
    refine⟨a,rfl,?_⟩
    rw[Zjg f1 rk']
    refine DPut.k ⟨_,hH⟩ (by rw[←rr.length_map];exact hz) fun ep=>?_
    exact k σ _ F5 _ sF (s5.change (sv':=.oK (putA (kvs.map (·.1)) vs kk d).1 (putA (kvs.map (·.1)) vs kk d).2) (o':=.dK (putK kvs kk v) ep) (ns':=[(a,.dK (putK kvs kk v) ep)]) ho hx mb (.oK z.1 z.2) (fun p hp=>.inl (List.mem_singleton.mp hp)) nd1)
   ·cases f2
  ·rename_i ks vs
   split at e5
   ·rename_i xs
    obtain⟨kk,f1,f2⟩:=Option.bind_eq_some_iff.mp e5
    split at f2
    ·rename_i hz
     cases f2
     obtain⟨x',hx',sh⟩:=s5.at' i _ ho
     rw[hx]at hx';cases hx'
     obtain⟨a,kvs,ep0,bs0,ea,en,kb,rfl,rr⟩:=Zoz sh
     subst ea
     have mb:(a,HO.dT kvs ep0 bs0)∈own4 i:=by rw[en];exact List.mem_cons_self
     have hH:=(s5.ok i _ mb).2.2
     have z:=Zfe (k:=kk) rd kvs vs rr
     obtain⟨b,us,rfl,hbF,rb⟩:=rk'.tupF
     rw[Zim f1 rb]at hbF
     refine⟨a,rfl,DPut.t ⟨_,_,hH⟩ (s5.le _ _ hbF) (by rw[←rr.length_map];exact hz) fun ep ep1 bs1 hq=>?_⟩
     rw[hH]at hq
     cases hq
     exact k σ _ F5 _ sF (s5.change (sv':=.oT (putA (kvs.map (·.1)) vs kk d).1 (putA (kvs.map (·.1)) vs kk d).2) (o':=.dT (putK kvs kk v) ep (putB kvs bs0 kk b)) (ns':=[(a,.dT (putK kvs kk v) ep (putB kvs bs0 kk b))]) ho hx mb (.oT (kb.put hbF) z.1 z.2) (fun p hp=>.inl (List.mem_singleton.mp hp)) nd1)
    ·cases f2
   ·cases e5
  ·rename_i q ks vs
   obtain⟨kk,f1,f2⟩:=Option.bind_eq_some_iff.mp e5
   split at f2
   ·rename_i hz
    cases f2
    obtain⟨x',hx',sh⟩:=s5.at' i _ ho
    rw[hx]at hx';cases hx'
    obtain⟨kvs,ep0,ea,en,rfl,rr⟩:=Zoy sh
    subst ea
    have mb:(q,HO.dK kvs ep0)∈own4 i:=by rw[en];exact List.mem_cons_self
    have hH:=(s5.ok i _ mb).2.2
    have z:=Zfe (k:=kk) rd kvs vs rr
    refine⟨q,rfl,?_⟩
    rw[Zjg f1 rk']
    refine DPut.k ⟨_,hH⟩ (by rw[←rr.length_map];exact hz) fun ep=>?_
    exact k σ _ F5 _ sF (s5.change (sv':=.oQ q (putA (kvs.map (·.1)) vs kk d).1 (putA (kvs.map (·.1)) vs kk d).2) (o':=.dK (putK kvs kk v) ep) (ns':=[(q,.dK (putK kvs kk v) ep)]) ho hx mb (.oQ z.1 z.2) (fun p hp=>.inl (List.mem_singleton.mp hp)) nd1)
   ·cases f2
  ·cases e5
 ·cases e
@[simp] noncomputable def bmDF(T:String)(g:D→List D→Option SV)(fo:FE)(fd:FD):FE:=fun δ=>(fo δ).bind fun p=>(rdv p.1 p.2).bind fun d0=>if tyOk T d0=true then(fd p.2).bind fun q=>(rdv p.1 q.2).bind fun d1=>(g d1 q.1).bind fun sv=>some (.tmp sv,q.2)else none
noncomputable def Zvr(Z:Ent K)(r:V→List V→Hp→VK→Prop)(g:D→List D→Option SV):Prop:=
 ∀(F H:Hp) (σ:L2.St) (δ:DSt) (own:Nat→Zl) (x:V) (d:D) (vs:List V) (ds:List D) (sv:SV) (Q:VK),SR Z F H σ δ own→RepN K F H d x→Reps K F ds vs→g d ds=some sv→Fin Z F H σ δ own sv Q→r x vs H Q
theorem Zyt{T:String}{r:V→List V→Hp→VK→Prop}{g:D→List D→Option SV}{fo:FE}{fd:FD}(hg:Zvr Z r g)(h:Zb Z (bmDF T g fo fd) σ H Q):tBM K T r (Zb Z fo) (Zcg Z fd) σ H Q:=by
 obtain⟨F,δ,own,rv,δ',s,e,k⟩:=h
 obtain⟨⟨rv1,δ1⟩,e1,e⟩:=Option.bind_eq_some_iff.mp e
 obtain⟨d0,e2,e⟩:=Option.bind_eq_some_iff.mp e
 dsimp only at e
 split at e
 ·rename_i ht
  obtain⟨⟨ds,δ2⟩,e3,e⟩:=Option.bind_eq_some_iff.mp e
  obtain⟨d1,e4,e⟩:=Option.bind_eq_some_iff.mp e
  obtain⟨sv,e5,e⟩:=Option.bind_eq_some_iff.mp e
  cases e
  refine⟨F,δ,own,rv1,δ1,s,e1,fun v H1 F1 own1 sH1 sF1 s1 r1=>?_⟩
  obtain⟨F1',sF1',s1',r1'⟩:=s1.settleR r1
  refine⟨Zvi s1'.le (s1'.rd r1' e2) ht,F1',δ1,own1,ds,δ2,s1',e3,fun vs H2 F2 own2 sH2 sF2 s2 r2=>?_⟩
  exact hg F2 H2 σ δ2 own2 v d1 vs ds sv Q s2 (s2.rd (r1'.mono sF2) e4) r2 e5 fun q H4 F4 ns sH4 sF4 s4 t4=>
   k q H4 F4 own2 (sH1.trans (sH2.trans sH4)) (sF1.trans (sF1'.trans (sF2.trans sF4))) s4 ⟨ns,t4⟩
 ·cases e
@[simp] noncomputable def Zjh:D→List D→Option SV
 |d,[y]=>(getO d y).bind fun o=>some (.fz (o.getD .non))
 |d,[y,z]=>(getO d y).bind fun o=>some (.fz (o.getD z))
 |_,_=>none
theorem Zr5:Zvr Z Zp2 Zjh:=by
 intro F H σ δ own x d vs ds sv Q s r1 r2 e k
 unfold Zjh at e
 split at e
 ·obtain⟨o,e1,e2⟩:=Option.bind_eq_some_iff.mp e
  cases e2
  cases r2 with
  |cons h t=>
   cases t
   obtain⟨a,rfl,_,g⟩:=Zg9 s.le e1 r1 (RepN.of h)
   cases o with
   |none=>exact⟨a,rfl,.inl ⟨_,none,rfl,g,k.fz s .non⟩⟩
   |some d=>obtain⟨v,g,rv⟩:=g;exact⟨a,rfl,.inl ⟨_,some v,rfl,g,k.fz s rv⟩⟩
 ·obtain⟨o,e1,e2⟩:=Option.bind_eq_some_iff.mp e
  cases e2
  cases r2 with
  |cons h t=>
   cases t with
   |cons h2 t=>
    cases t
    obtain⟨a,rfl,_,g⟩:=Zg9 s.le e1 r1 (RepN.of h)
    cases o with
    |none=>exact⟨a,rfl,.inr ⟨_,_,none,rfl,g,k.fz s h2⟩⟩
    |some d=>obtain⟨v,g,rv⟩:=g;exact⟨a,rfl,.inr ⟨_,_,some v,rfl,g,k.fz s rv⟩⟩
 ·cases e
end
section
variable{X:Cx}{Z:Ent X.K}{a b c:Expr}{fa fb fc:FE}{pos:Pos}
theorem Zr6:PE X (.Dict [] [] pos) (Zb Z Zr2):=Zn8.imp fun _ _ _ h=>Zr3 h
theorem Zvs{apos cpos:Pos}{es:List Expr}{fd:FD}(hu:X.A.units+1<cLine)(ha:PE X a (Zb Z fa))(hb:PA X (b::es) (Zcg Z fd))(hbase:attributeBase a "get" X.env (eval a X.env)=eval a X.env:=by rfl)
  (hfew:((backTo cpos (starEach (b::es) X.env)).all (fun x=>!x.1)&&(backToKw cpos (keywordEach [] X.env)).all (fun x=>x.1.isSome)&&decide ((b::es).length+([]:List Keyword).length+(if([]:List Keyword).isEmpty then 0 else 1)<30))=true:=by rfl)
  (hline:(apos.endLine==cpos.line)=true:=by rfl) (hs:starEach (b::es) X.env=(false,eval b X.env)::starEach es X.env:=by rfl) (hpl:(backTo cpos (starEach es X.env)).any (·.1)=false:=by rfl):
  PE X (.Call (.Attribute a "get" apos) (b::es) [] cpos) (Zb Z (bmDF "dict" Zjh fa fd)):=
 (Zn5 PySem.F.plainAttrs_dict PySem.F.slot_dict_get PySem.F.type_dict_get (Zr1 hu) ha hb hbase hfew hline hs hpl).imp fun _ _ _ h=>Zyt Zr5 h
theorem Zyu(i:Nat){x:Str}{px p1:Pos}(hu:X.A.units+1<cLine)(hb:PE X b (Zb Z fb))(hv':PE X a (Zb Z fa))(hN:X.N[i]? =some x:=by rfl)(hv:Vis X.env.scope x:=by first|exact Or.inl rfl|exact Or.inr (Or.inl rfl)|exact Or.inr (Or.inr rfl))(hd:(x==("__debug__":Str))=false:=by decide)
  (hcd:(x==("__classdict__":Str))=false:=by decide) (hs:swapsWith a (some (.Subscript (.Name x px) b p1)) pos.line X.env=pure false:=by rfl):
  PS X (.Assign [.Subscript (.Name x px) b p1] a pos) (Zy Z (putF i fb fa)):=(Zrc hu (Zi2 (i:=i) hN hv hd hcd) hb hv' hs).imp fun _ _ _ h=>Zys h
end
end DL
namespace L2
open PySem PySem.Spec PyProof.Rows
variable{X:Cx}
noncomputable def Zyv:List V→Hp→VK→Prop:=fun xs H Q=>∃a kvs,xs=[.ref a]∧RdK H a kvs∧∀p ep,H p=none→Q (.ref p) (upd H p (.dK kvs ep))
end L2
namespace DL
open PySem PySem.Spec PyProof.Rows L2
variable{K:PySem.W.Frag}
section
variable{Z:Ent K}{H:Hp}{σ:L2.St}{Q:VK}{E:Ends}
@[simp] noncomputable def Z16:List D→Option SV
 | [.dK ks vs]=>some (.oK ks vs)
 |_=>none
@[simp] noncomputable def Z0s(k:Str)(i:Nat):FE:=fun δ=>match δ[i]? with
 |some (some sv)=>some (.tmp (.oK [.inr k] [sv.toD]),δ.set i (some (.fz sv.toD)))
 |_=>none
@[simp] noncomputable def Zvt(ks:List Key)(vs:List D)(k:Key):List Key×List D:=(((ks.zip vs).filter fun p=>decide (p.1≠k)).map (·.1),((ks.zip vs).filter fun p=>decide (p.1≠k)).map (·.2))
@[simp] noncomputable def popF(i:Nat)(fk:FE):FS:=fun δ=>match δ[i]? with
 |some (some (.oK _ _))=>(fk δ).bind fun r=>(rdv r.1 r.2).bind fun kd=>kd.key?.bind fun k=>match r.2[i]? with
  |some (some (.oK ks vs))=>if(look ks vs k).isSome=true then some (.nx (r.2.set i (some (.oK (Zvt ks vs k).1 (Zvt ks vs k).2))))else none
  |_=>none
 |_=>none
end
section
variable{X:Cx}{Z:Ent X.K}{a b c:Expr}{fa fb fc:FE}{pos:Pos}
end
end DL
namespace L2
open PySem PySem.Spec PyProof.Rows
section
variable{prog:Program}{w:World}{A:Around}{E:Value→Shared→Prop}{s:Shared}
theorem Zkq{Q:Int→Shared→Prop}(h:Q 0xFCA86420 {s with toks:=s.toks+1}):wpAny (model prog w) A (pyHash .none) Q E s:=by
 have hT:s.TypeIs .none "NoneType":=rfl
 refine PySem.W.pyHash_slot (v:=.none) (Q:=Q) hT F.slot_NoneType_hash F.entry_NoneType_hash (F.args_NoneType_hash_1 _) rfl (.inl rfl) ?_
 show wpAny (model prog w) A.in1 (mkInt 0xFCA86420 >>=fun v=>ret v) _ E s
 refine wpAny_bind (wpAny_mkInt ?_)
 exact wpAny_pure ⟨_,_,rfl,h⟩
end
noncomputable def Zr7:Option Key→Value→Bool
 |none,.none=>true
 |none,_=>false
 |some k,v=>Zd3 k v
theorem Zx{k:Option Key}{v:Value}(h:Zr7 k v=true):(k=none∧v= .none)∨∃j,k=some j∧Zd3 j v=true:=by
 cases k with
 |none=>cases v<;> first|exact .inl ⟨rfl,rfl⟩|cases h
 |some j=>exact .inr ⟨j,rfl,h⟩
theorem Zfz{j:Key}(h:Zd3 j .none=true):False:=by
 rcases Zp h with⟨i,t,_,e⟩|⟨x,t,_,e⟩<;> cases e
noncomputable def Zin(prog:Program)(w:World):PySem.KeyKind prog w (Option Key)where
 is:=Zr7
 hash:=fun|none=>0xFCA86420|some k=>(Zo prog w).hash k
 inj:=fun v a b ha hb=>by
  rcases Zx ha with⟨rfl,rfl⟩|⟨i,rfl,hi⟩
  ·rcases Zx hb with⟨rfl,_⟩|⟨j,rfl,hj⟩
   ·rfl
   ·exact(Zfz hj).elim
  ·rcases Zx hb with⟨rfl,rfl⟩|⟨j,rfl,hj⟩
   ·exact(Zfz hi).elim
   ·rw[(Zo prog w).inj v i j hi hj]
 byValue:=fun k v h=>by
  rcases Zx h with⟨rfl,rfl⟩|⟨i,rfl,hi⟩
  ·rfl
  ·exact(Zo prog w).byValue i v hi
 pyHash:=fun{A E s k v Q} hv h=>by
  rcases Zx hv with⟨rfl,rfl⟩|⟨i,rfl,hi⟩
  ·exact Zkq h
  ·exact(Zo prog w).pyHash hi h
 eqBool:=fun{A E s a b u v Q} hu hv h=>by
  rcases Zx hu with⟨rfl,rfl⟩|⟨i,rfl,hi⟩
  ·rcases Zx hv with⟨rfl,rfl⟩|⟨j,rfl,hj⟩
   ·exact SeqAt.EqAt.same _ _ _ _ _ (by simpa using h)
   ·rw[decide_eq_false (fun z=>nomatch z)]at h
    rcases Zp hj with⟨i,t,rfl,rfl⟩|⟨x,t,rfl,rfl⟩
    ·exact SeqAt.EqAt.none_int i t _ _ _ _ h
    ·exact SeqAt.EqAt.none_str x t _ _ _ _ h
  ·rcases Zx hv with⟨rfl,rfl⟩|⟨j,rfl,hj⟩
   ·rw[decide_eq_false (fun z=>nomatch z)]at h
    rcases Zp hi with⟨i,t,rfl,rfl⟩|⟨x,t,rfl,rfl⟩
    ·exact SeqAt.EqAt.int_none i t _ _ _ _ h
    ·exact SeqAt.EqAt.str_none x t _ _ _ _ h
   ·refine(Zo prog w).eqBool hi hj ?_
    have e:decide (some i=some j)=decide (i=j):=by simp
    rw[←e];exact h
 «strs»:=fun k x t v h=>by
  rcases Zx h with⟨rfl,e⟩|⟨i,rfl,hi⟩
  ·cases e
  ·exact(Zo prog w).strs i x t v hi
variable{X:Cx}
theorem Zmi{P:Program}{w:World}{h:Heap}{a:Addr}{vs:List (Key×Value)}(d:h.DictOf (Zo P w) a vs):h.MapOf (Zin P w) a (fun|none=>none|some k=>valueAt vs k):=by
 obtain⟨o,es,ep,ho,hc,hd,hk,hf⟩:=d.mapOf
 refine⟨o,es,ep,ho,hc,hd,fun e he=>?_,fun k=>?_⟩
 ·obtain⟨k,h1,h2⟩:=hk e he
  exact⟨some k,h1,h2⟩
 ·cases k with
  |some k=>exact hf k
  |none=>
   show(es.find? fun e=>Zr7 none e.key).map (·.val)=none
   rw[Array.find?_eq_none.mpr fun e he z=>?_]
   ·rfl
   ·obtain⟨k,h1,_⟩:=hk e he
    rcases Zx z with⟨_,e2⟩|⟨j,e2,_⟩
    ·rw[e2]at h1;exact Zfz h1
    ·cases e2
noncomputable def Zff(neg:Bool):R2:=fun y x H Q=>∃a kvs,y= .non∧x= .ref a∧RdK H a kvs∧Q (.bl neg) H
theorem Zha:OpR X (compareOp .In) (Zff false):=by
 intro pins s σ H y x v u Q I ry rx h
 obtain⟨a,kvs,rfl,rfl,e,q⟩:=h
 cases ry
 cases rx
 obtain⟨z,hd,vs,rel,dd⟩:=Zfr I.hok e
 exact wpAny_in_of (knd:=Zin X.prog X.w) (k:=none) rfl hd (Zmi dd) ⟨.bl false,H,I.tok _,rfl,q⟩
theorem Zhb:OpR X (compareOp .NotIn) (Zff true):=by
 intro pins s σ H y x v u Q I ry rx h
 obtain⟨a,kvs,rfl,rfl,e,q⟩:=h
 cases ry
 cases rx
 obtain⟨z,hd,vs,rel,dd⟩:=Zfr I.hok e
 exact wpAny_notIn_of (knd:=Zin X.prog X.w) (k:=none) rfl hd (Zmi dd) ⟨.bl true,H,I.tok _,rfl,q⟩
end L2
namespace L2
open PySem PySem.Spec PyProof.Rows
noncomputable def Zji(es:Array DictEntry)(kvs:List (Str×Value)):Prop:=es.size=kvs.length∧∀(i:Nat) (p:Str×Value),kvs[i]? =some p→∃e t,es[i]? =some e∧e.key= .str p.1 t∧e.val=p.2
noncomputable def Zf0(h:Heap)(a:Addr)(kvs:List (Str×Value)):Prop:=∃o es ep,h.get? a=some o∧o.ExactDict∧o.data= .dict es ep∧Zji es kvs
noncomputable def place(kvs:List (Str×Value))(x:Str):Option Nat:=kvs.findIdx? fun p=>decide (p.1=x)
theorem Zji.find{es:Array DictEntry}{kvs:List (Str×Value)}(h:Zji es kvs)(x:Str):(es.findIdx? fun e=>e.key.isStr x)=place kvs x:=by
 unfold place
 have hA:(es.findIdx? fun e=>e.key.isStr x)=es.toList.findIdx? fun e=>e.key.isStr x:=by obtain⟨l⟩:=es;simp
 rw[hA]
 have:∀(es:List DictEntry) (kvs:List (Str×Value)),es.length=kvs.length→(∀(i:Nat) (p:Str×Value),kvs[i]? =some p→∃e t,es[i]? =some e∧e.key= .str p.1 t∧e.val=p.2)→
   es.findIdx? (fun e=>e.key.isStr x)=kvs.findIdx? fun p=>decide (p.1=x):=by
  intro es
  induction es with
  |nil=>intro kvs hl _;cases kvs with
   |nil=>rfl
   |cons p r=>cases hl
  |cons e es ih=>
   intro kvs hl hp
   cases kvs with
   |nil=>cases hl
   |cons p r=>
    obtain⟨e',t,h1,h2,h3⟩:=hp 0 p rfl
    obtain rfl:e=e':=by simpa using h1
    have hk:e.key.isStr x=decide (p.1=x):=by
     rw[h2]
     show(p.1==x)=_
     by_cases z:p.1=x
     ·rw[z];simp
     ·rw[decide_eq_false z];exact beq_eq_false_iff_ne.mpr z
    rw[List.findIdx?_cons,List.findIdx?_cons,hk,ih r (by simpa using hl) (fun i q hq=>hp (i+1) q (by simpa using hq))]
 exact this es.toList kvs (by rw[Array.length_toList];exact h.1) (fun i p hp=>by
  obtain⟨e,t,h1,h2⟩:=h.2 i p hp
  exact⟨e,t,by rw[Array.getElem?_toList];exact h1,h2⟩)
section
variable{prog:Program}{w:World}{A:Around}{E:Value→Shared→Prop}{s:Shared}
theorem Zmj{d:Addr}{o:Obj}{es:Array DictEntry}{ep:Nat}{kvs:List (Str×Value)}{x:Str}{t:Tok}{n:Int}{Q:Option Nat→Shared→Prop}(ho:s.heap.get? d=some o)(hd:o.data= .dict es ep)(hp:Zji es kvs)(q:Q (place kvs x) s):
  wpAny (model prog w) A (dictFind d (.str x t) n) Q E s:=by
 have hall:(es.all fun e=>isExactStrKey e.key)=true:=by
  rw[Array.all_eq_true]
  intro i hi
  have hi':i<kvs.length:=by rw[←hp.1];exact hi
  obtain⟨e,t',h1,h2,_⟩:=hp.2 i kvs[i] (by simp[hi'])
  rw[Array.getElem?_eq_getElem hi]at h1
  cases h1
  rw[h2];rfl
 unfold dictFind
 try with_reducible refine wpAny_holding ?_
 refine wpAny_bind (wpAny_dictEntries ho hd ?_)
 dsimp only
 rw[if_pos hall]
 unfold foundByValue
 rw[hp.find x]
 cases hj:place kvs x with
 |none=>rw[hj]at q;exact wpAny_pure q
 |some j=>
  rw[hj]at q
  obtain⟨hlt,hx,_⟩:=List.findIdx?_eq_some_iff_getElem.mp hj
  obtain⟨e,t',h1,h2,h3⟩:=hp.2 j kvs[j] (by simp[hlt])
  have hx':kvs[j].1=x:=of_decide_eq_true hx
  rw[hx']at h2
  dsimp only
  rw[h1]
  dsimp only
  refine wpAny_bind (wpAny_dictEpoch ho hd ?_)
  rw[h2]
  refine wpAny_bind (SeqAt.EqAt.str_str x t' x t prog w _ _ ?_)
  refine wpAny_bind (wpAny_dictEpoch ho hd ?_)
  rw[if_neg (by simp)]
  simp only[beq_self_eq_true,if_true]
  exact wpAny_bind (wpAny_rule (wpAny_pure q))
end
inductive SHits(A:Around)(s:Shared)(kb:List (Str×Value)):List (Str×Value)→Bool→Prop where
 |nil:SHits A s kb [] true
 |miss {k:Str} {v:Value} {r:List (Str×Value)}:place kb k=none→SHits A s kb ((k,v)::r) false
 |hit {k:Str} {v:Value} {r:List (Str×Value)} {j:Nat} {p:Str×Value} {e b:Bool}:place kb k=some j→kb[j]? =some p→SeqAt.EqAt A s v p.2 e→SHits A s kb r b→SHits A s kb ((k,v)::r) (e&&b)
section
variable{prog:Program}{w:World}{A:Around}{E:Value→Shared→Prop}{s:Shared}
theorem Zfg{nm:String}{a b:Addr}{ka kb:List (Str×Value)}{r:Bool}{Q:Bool→Shared→Prop}(ha:(a==sysModules)=false)(hb:(b==sysModules)=false)(da:Zf0 s.heap a ka)(db:Zf0 s.heap b kb)
  (hits:ka.length=kb.length→SHits A s kb ka r) (q:Q (ka.length==kb.length&&r) s):wpAny (model prog w) A (Builtin.Dict.samePairs nm a b) Q E s:=by
 obtain⟨oa,es,ep,ga,_,dta,pa⟩:=da
 obtain⟨ob,es',ep',gb,_,dtb,pb⟩:=db
 have la:=pa.1
 have lb:=pb.1
 unfold Builtin.Dict.samePairs Builtin.Dict.showsAll
 rw[if_neg (by rw[ha];exact Bool.false_ne_true),if_neg (by rw[hb];exact Bool.false_ne_true)]
 refine wpAny_bind (wpAny_pure (wpAny_bind (wpAny_pure (wpAny_bind (wpAny_dictEntries ga dta ?_)))))
 refine wpAny_bind (wpAny_dictEntries gb dtb ?_)
 by_cases hz:es.size=es'.size
 ·have hl:ka.length=kb.length:=by omega
  have q':Q r s:=by simpa[hl]using q
  have hh:=hits hl
  rw[if_neg (by rw[hz];simp)]
  refine wpAny_bind (wpAny_dictEpoch ga dta (wpAny_bind ?_))
  rw[Std.Legacy.Range.forIn_eq_forIn_range']
  simp only[Std.Legacy.Range.size,Nat.sub_zero,Nat.add_sub_cancel,Nat.div_one]
  refine wpAny_forIn_list _ (fun rest x s'=>s'=s∧x=(none,())∧∃i,rest=List.range' i (es.size- i)∧i≤es.size∧SHits A s kb (ka.drop i) r) _ ?_ ?_ _ _ ⟨rfl,rfl,0,by simp,Nat.zero_le _,hh⟩
  ·rintro x rest y s' ⟨rfl,rfl,i,hr,hi,hS⟩
   have hlt:i<es.size:=by
    rcases Nat.lt_or_ge i es.size with z|z
    ·exact z
    ·rw[Nat.sub_eq_zero_of_le z]at hr;cases hr
   rw[show es.size- i=(es.size- (i+1))+1 by omega,List.range'_succ]at hr
   injection hr with hx hrest
   subst hx
   have hlk:x<ka.length:=by omega
   obtain⟨e,t,h1,h2,h3⟩:=pa.2 x ka[x] (by simp[hlk])
   rw[List.drop_eq_getElem_cons hlk]at hS
   refine wpAny_bind (wpAny_dictEntries ga dta ?_)
   rw[h1]
   show wpAny _ _ (holding [e.key,e.val] _ >>=_) _ _ _
   rw[h2]
   refine wpAny_bind (wpAny_holding (wpAny_bind (Zmj gb dtb pb ?_)))
   generalize hk:ka[x]=p at hS h2 h3⊢
   obtain⟨k,v⟩:=p
   cases hS with
   |miss hn=>
    rw[hn]
    refine wpAny_pure ?_
    show wpAny _ _ (if(!false)=true then _ else _) _ _ _
    rw[if_pos (by decide)]
    exact wpAny_pure (wpAny_pure q')
   | @hit _ _ _ j p' eb bb hn hp he hr'=>
    rw[hn]
    obtain⟨f,t',g1,g2,g3⟩:=pb.2 j p' hp
    refine wpAny_bind (wpAny_dictEntries gb dtb ?_)
    rw[g1]
    rw[show e.val=v from h3]
    dsimp only
    rw[g3]
    refine wpAny_holding (he prog w _ _ ?_)
    cases eb with
    |false=>
     rw[Bool.false_and]at q'
     show wpAny _ _ (if(!false)=true then _ else _) _ _ _
     rw[if_pos (by decide)]
     exact wpAny_pure (wpAny_pure q')
    |true=>
     show wpAny _ _ (if(!true)=true then _ else _) _ _ _
     rw[if_neg (by decide)]
     refine wpAny_bind (wpAny_dictEpoch ga dta ?_)
     rw[if_neg (by simp)]
     exact wpAny_pure ⟨rfl,rfl,x+1,hrest,hlt,by rw[Bool.true_and];exact hr'⟩
  ·rintro x s' ⟨rfl,rfl,i,hr,hi,hS⟩
   have e:i=es.size:=by
    rcases Nat.lt_or_ge i es.size with z|z
    ·rw[show es.size- i=(es.size- (i+1))+1 by omega,List.range'_succ]at hr;cases hr
    ·omega
   rw[e,la,List.drop_length]at hS
   cases hS
   exact wpAny_pure q'
 ·rw[if_pos (by simpa using hz)]
  have hf:(ka.length==kb.length)=false:=by rw[←la,←lb];simpa using hz
  rw[hf,Bool.false_and]at q
  exact wpAny_bind (wpAny_rule (wpAny_pure q))
end
section
variable{A:Around}{s:Shared}{a b:Addr}{ka kb:List (Str×Value)}{r:Bool}
theorem Zf0.typeIs(d:Zf0 s.heap a ka):s.TypeIs (.ref a) "dict":=let⟨o,_,_,ho,hc,_⟩:=d;⟨o,ho,hc.1⟩
theorem Zjj(ha:(a==sysModules)=false)(hb:(b==sysModules)=false)(da:Zf0 s.heap a ka)(db:Zf0 s.heap b kb)(hu:A.units<cLine)(hits:ka.length=kb.length→SHits A.in1 s kb ka r):SeqAt.RcAt A s (.ref a) (.ref b) (ka.length==kb.length&&r):=fun prog w E Q q=>by
 refine wpAny_richCompare_same_room (op:=.Eq) da.typeIs db.typeIs PySem.F.slot_dict_eq (wpAny_call_entry PySem.F.slot_dict_eq da.typeIs PySem.F.entry_dict_eq ?_ (PySem.F.args_dict_eq_2 _ _)) hu;show wpAny _ _ (Builtin.Dict.dictSlotArgs "__eq__" ⟨[.ref a,.ref b],[]⟩>>=_) _ _ s
 refine wpAny_bind ?_;unfold Builtin.Dict.dictSlotArgs;refine wpAny_bind (wpAny_notOrdered_dict da.typeIs ?_);show wpAny _ _ (pure (Value.ref a,Value.ref b)) _ _ s
 refine wpAny_pure (wpAny_bind (wpAny_isInstance (T:="dict") db.typeIs PySem.F.sub_dict_dict ?_));simp only[Bool.not_true,Bool.false_eq_true,if_false]
 refine wpAny_bind (wpAny_pure (wpAny_bind (wpAny_pure (wpAny_bind (Zfg ha hb da db hits ?_)))))
 exact wpAny_pure ⟨_,rfl,(fun x=>nomatch x),by simpa using q⟩
theorem Zfh(ha:(a==sysModules)=false)(hb:(b==sysModules)=false)(da:Zf0 s.heap a ka)(db:Zf0 s.heap b kb)(hu:A.units<cLine)(hits:ka.length=kb.length→SHits A.in1 s kb ka r):SeqAt.RcNeAt A s (.ref a) (.ref b) (!(ka.length==kb.length&&r)):=fun prog w E Q q=>by
 refine wpAny_richCompare_same_room (op:=.NotEq) da.typeIs db.typeIs PySem.F.slot_dict_ne (wpAny_call_entry PySem.F.slot_dict_ne da.typeIs PySem.F.entry_dict_ne ?_ (PySem.F.args_dict_ne_2 _ _)) hu;show wpAny _ _ (Builtin.Dict.dictSlotArgs "__ne__" ⟨[.ref a,.ref b],[]⟩>>=_) _ _ s
 refine wpAny_bind ?_;unfold Builtin.Dict.dictSlotArgs;refine wpAny_bind (wpAny_notOrdered_dict da.typeIs ?_);show wpAny _ _ (pure (Value.ref a,Value.ref b)) _ _ s
 refine wpAny_pure (wpAny_bind (wpAny_isInstance (T:="dict") db.typeIs PySem.F.sub_dict_dict ?_));simp only[Bool.not_true,Bool.false_eq_true,if_false]
 refine wpAny_bind (wpAny_pure (wpAny_bind (wpAny_pure (wpAny_bind (Zfg ha hb da db hits ?_)))))
 exact wpAny_pure ⟨_,rfl,(fun x=>nomatch x),by simpa using q⟩
end
end L2
namespace DL
open PySem PySem.Spec PyProof.Rows L2
variable{K:PySem.W.Frag}
@[simp] noncomputable def strK?:List Key→Option (List Str)
 | []=>some []
 | .inr x::r=>(strK? r).bind fun t=>some (x::t)
 |_=>none
@[simp] noncomputable def eqKV(f:D→D→Option Bool)(ys:List Str)(us:List D):List Str→List D→Option Bool
 |x::xs,v::vs=>match look ys us x with
  |none=>some false
  |some u=>(f v u).bind fun b=>(eqKV f ys us xs vs).bind fun c=>some (b&&c)
 |_,_=>some true
@[simp] noncomputable def Zek(f:D→D→Option Bool):D→D→Option Bool
 | .dK ks vs,.dK ks' vs'=>(strK? ks).bind fun xs=>(strK? ks').bind fun ys=>if xs.length=ys.length then eqKV f ys vs' xs vs else some false
 |d1,d2=>Zeh f d1 d2
@[simp] noncomputable def eqM:Nat→D→D→Option Bool
 |0=>fun _ _=>none
 |n+1=>Zek (eqM n)
theorem Zmk{P:Program}{w:World}:∀{es:List DictEntry} {kvs:List (Key×Value)} {xs:List Str},Pairs (Zo P w) es kvs→strK? (kvs.map (·.1))=some xs→
  ∃skv:List (Str×Value),skv.map (·.1)=xs∧skv.map (·.2)=kvs.map (·.2)∧es.length=skv.length∧∀(i:Nat) (p:Str×Value),skv[i]? =some p→∃e t,es[i]? =some e∧e.key= .str p.1 t∧e.val=p.2
 |_,_,_,.nil,e=>by cases e;exact⟨[],rfl,rfl,rfl,fun i p h=>by simp at h⟩
 |_,_,_,@Pairs.cons _ _ _ _ _ en kv es kvs hi hv t,e=>by
  obtain⟨k,v⟩:=kv
  cases k with
  |inl i=>cases e
  |inr x=>
   have e:(strK? (kvs.map (·.1))).bind (fun t=>some (x::t))=some _:=e
   obtain⟨xs,e1,e2⟩:=Option.bind_eq_some_iff.mp e
   cases e2
   obtain⟨skv,h1,h2,h3,h4⟩:=Zmk t e1
   refine⟨(x,v)::skv,by rw[List.map_cons,h1],by rw[List.map_cons,List.map_cons,h2],by rw[List.length_cons,List.length_cons,h3],fun i p hp=>?_⟩
   cases i with
   |zero=>
    obtain rfl:(x,v)=p:=by simpa using hp
    rcases Zp (show Zd3 (.inr x) en.key=true from hi)with⟨j,t',e3,_⟩|⟨y,t',e3,e4⟩
    ·cases e3
    ·cases e3;exact⟨en,t',rfl,e4,hv⟩
   |succ i=>exact h4 i p (by simpa using hp)
theorem Zio:∀{kvs:List (Key×V)} {vs:List (Key×Value)},KV kvs vs→vs.map (·.1)=kvs.map (·.1)∧Vals (kvs.map (·.2)) (vs.map (·.2))
 |_,_,.nil=>⟨rfl,.nil⟩
 |_,_,.cons h t=>⟨by rw[List.map_cons,List.map_cons,h.1,(Zio t).1],.cons h.2 (Zio t).2⟩
section
variable{X:Cx}{pins:List (Addr×Obj)}{σ:L2.St}{F H:Hp}{s:Shared}
theorem Zf1(I:Inv X pins σ H s){a:Addr}{kvs:List (Key×V)}{xs:List Str}(ha:HK H a kvs)(e:strK? (kvs.map (·.1))=some xs):
  (a==sysModules)=false∧∃skv:List (Str×Value),Zf0 s.heap a skv∧skv.map (·.1)=xs∧Vals (kvs.map (·.2)) (skv.map (·.2))∧(kvs.map (·.1)).Nodup:=by
 obtain⟨z,hd,vs,rel,dd⟩:=Zut I.hok ha
 obtain⟨k1,k2⟩:=Zio rel
 obtain⟨o,es,ep,ho,hc,hdt,_,hp,nd⟩:=dd
 rw[←k1]at e
 obtain⟨skv,h1,h2,h3,h4⟩:=Zmk hp e
 refine⟨hd,skv,⟨o,es,ep,ho,hc,hdt,by rw[←h3];simp,fun i p hpp=>?_⟩,h1,by rw[h2];exact k2,by rw[←k1];exact nd⟩
 obtain⟨en,t,g1,g2⟩:=h4 i p hpp
 exact⟨en,t,by rw[←Array.getElem?_toList];exact g1,g2⟩
theorem Zdf(x:Str):∀(skv:List (Str×Value)) (us:List D) (Us:List V),Reps X.K F us Us→Vals Us (skv.map (·.2))→match look (skv.map (·.1)) us x with
  |none=>place skv x=none
  |some u=>∃j p U,place skv x=some j∧skv[j]? =some p∧Rep X.K F u U∧RelV U p.2
 | [],_,_,r,v=>by cases v;cases r;rfl
 |p::skv,_,_,r,v=>by
  cases v with
  | @cons U u' Us us' hU tU=>
  cases r with
  | @cons d v' ds vs' h t=>
   have ih:=Zdf x skv ds Us t tU
   show match(if p.1=x then some d else look (skv.map (·.1)) ds x)with
    |none=>place (p::skv) x=none
    |some u=>∃j q U,place (p::skv) x=some j∧(p::skv)[j]? =some q∧Rep X.K F u U∧RelV U q.2
   have hpl:place (p::skv) x=if p.1=x then some 0 else(place skv x).map (· +1):=by
    unfold place
    rw[List.findIdx?_cons]
    by_cases e:p.1=x<;> simp[e]
   by_cases e:p.1=x
   ·rw[if_pos e,hpl,if_pos e]
    exact⟨0,p,U,rfl,rfl,h,hU⟩
   ·rw[if_neg e,hpl,if_neg e]
    cases hl:look (skv.map (·.1)) ds x with
    |none=>rw[hl]at ih;dsimp only at ih⊢;rw[ih];rfl
    |some u=>
     rw[hl]at ih
     obtain⟨j,q,U',h1,h2,h3,h4⟩:=ih
     exact⟨j+1,q,U',by rw[h1];rfl,by simpa using h2,h3,h4⟩
theorem Zml{A:Around}{f:D→D→Option Bool}(ih:∀d1 d2 b x y v u,Rep X.K F d1 x→RelV x v→Rep X.K F d2 y→RelV y u→f d1 d2=some b→SeqAt.EqAt A s v u b){skv2:List (Str×Value)}{us:List D}{Us:List V}(ru:Reps X.K F us Us)(vu:Vals Us (skv2.map (·.2))):
  ∀(skv:List (Str×Value)) (vs:List D) (Vs:List V) (r:Bool),Reps X.K F vs Vs→Vals Vs (skv.map (·.2))→eqKV f (skv2.map (·.1)) us (skv.map (·.1)) vs=some r→SHits A s skv2 skv r
 | [],_,_,_,r,v,e=>by cases v;cases r;cases e;exact .nil
 |p::skv,_,_,_,r,v,e=>by
  obtain⟨k,w⟩:=p
  cases v with
  | @cons V0 u' Vs us' hV tV=>
  cases r with
  | @cons d v' ds vs' h t=>
   have lp:=Zdf (X:=X) (F:=F) k skv2 us Us ru vu
   have e:(match look (skv2.map (·.1)) us k with
    |none=>some false
    |some u=>(f d u).bind fun b=>(eqKV f (skv2.map (·.1)) us (skv.map (·.1)) ds).bind fun c=>some (b&&c))=some _:=e
   cases hl:look (skv2.map (·.1)) us k with
   |none=>
    rw[hl]at lp e
    cases e
    exact .miss lp
   |some u=>
    rw[hl]at lp e
    obtain⟨j,q,U,h1,h2,h3,h4⟩:=lp
    obtain⟨b,e1,e2⟩:=Option.bind_eq_some_iff.mp e
    obtain⟨c,e3,e4⟩:=Option.bind_eq_some_iff.mp e2
    cases e4
    exact .hit h1 h2 (ih _ _ _ _ _ _ _ h hV h3 h4 e1) (Zml ih ru vu skv ds Vs c t tV e3)
end
end DL
namespace DL
open PySem PySem.Spec PyProof.Rows L2
variable{K:PySem.W.Frag}
theorem Zhc:∀(skv:List (Str×Value)),(skv.map (·.1)).Nodup→∀q∈skv,∃j,place skv q.1=some j∧skv[j]? =some q
 | [],_,_,h=>nomatch h
 |p::r,nd,q,h=>by
  obtain⟨n1,n2⟩:=List.nodup_cons.mp nd
  have hpl:place (p::r) q.1=if p.1=q.1 then some 0 else(place r q.1).map (· +1):=by
   unfold place
   rw[List.findIdx?_cons]
   by_cases e:p.1=q.1<;> simp[e]
  rcases List.mem_cons.mp h with e|e
  ·subst e;exact⟨0,by rw[hpl,if_pos rfl],rfl⟩
  ·obtain⟨j,h1,h2⟩:=Zhc r n2 q e
   have hne:¬p.1=q.1:=fun z=>n1 (List.mem_map.mpr ⟨q,e,z.symm⟩)
   exact⟨j+1,by rw[hpl,if_neg hne,h1];rfl,by simpa using h2⟩
theorem Zjk:∀{ks:List Key} {xs:List Str},strK? ks=some xs→ks=xs.map Sum.inr
 | [],_,e=>by cases e;rfl
 | .inr x::ks,_,e=>by
  obtain⟨t,e1,e2⟩:=Option.bind_eq_some_iff.mp e
  cases e2
  rw[Zjk e1];rfl
 | .inl i::ks,_,e=>by cases e
theorem Zkr{ks:List Key}{xs:List Str}(e:strK? ks=some xs)(nd:ks.Nodup):xs.Nodup:=by
 rw[Zjk e]at nd
 have z:(xs.map Sum.inr:List Key).Pairwise (· ≠ ·):=nd
 rw[List.pairwise_map]at z
 exact z.imp fun h e=>h (by rw[e])
section
variable{X:Cx}{pins:List (Addr×Obj)}{σ:L2.St}{F H:Hp}{s:Shared}
theorem Zhd{f:D→D→Option Bool}(ih:∀(d1 d2:D) (b:Bool) (x y:V) (v:Value),Rep X.K F d1 x→RelV x v→Rep X.K F d2 y→RelV y v→f d1 d2=some b→b=true){skv:List (Str×Value)}{us:List D}{Us:List V}(ru:Reps X.K F us Us)(vu:Vals Us (skv.map (·.2))):
  ∀(skv1:List (Str×Value)) (vs:List D) (Vs:List V) (r:Bool),(∀q∈skv1,∃j,place skv q.1=some j∧skv[j]? =some q)→Reps X.K F vs Vs→Vals Vs (skv1.map (·.2))→eqKV f (skv.map (·.1)) us (skv1.map (·.1)) vs=some r→r=true
 | [],_,_,_,_,r,v,e=>by cases v;cases r;cases e;rfl
 |p::skv1,_,_,_,hs,r,v,e=>by
  obtain⟨k,w⟩:=p
  cases v with
  | @cons V0 u' Vs us' hV tV=>
  cases r with
  | @cons d v' ds vs' h t=>
   have lp:=Zdf (X:=X) (F:=F) k skv us Us ru vu
   obtain⟨j,hj1,hj2⟩:=hs (k,w) List.mem_cons_self
   have e:(match look (skv.map (·.1)) us k with
    |none=>some false
    |some u=>(f d u).bind fun b=>(eqKV f (skv.map (·.1)) us (skv1.map (·.1)) ds).bind fun c=>some (b&&c))=some _:=e
   cases hl:look (skv.map (·.1)) us k with
   |none=>
    rw[hl]at lp
    rw[show place skv k=some j from hj1]at lp
    cases lp
   |some u=>
    rw[hl]at lp e
    obtain⟨j',q,U,h1,h2,h3,h4⟩:=lp
    rw[show place skv k=some j from hj1]at h1
    cases h1
    rw[hj2]at h2
    cases h2
    obtain⟨b,e1,e2⟩:=Option.bind_eq_some_iff.mp e
    obtain⟨c,e3,e4⟩:=Option.bind_eq_some_iff.mp e2
    cases e4
    rw[ih _ _ _ _ _ _ h hV h3 h4 e1,Zhd ih ru vu skv1 ds Vs c (fun q hq=>hs q (List.mem_cons_of_mem _ hq)) t tV e3];rfl
theorem Zf2(I:Inv X pins σ H s)(le:Same F H):∀(n:Nat) (d1 d2:D) (b:Bool) (x y:V) (v:Value),Rep X.K F d1 x→RelV x v→Rep X.K F d2 y→RelV y v→eqM n d1 d2=some b→b=true
 |0,_,_,_,_,_,_,_,_,_,_,e=>by cases e
 |n+1,d1,d2,b,x,y,v,r1,v1,r2,v2,e=>by
  unfold eqM Zek at e
  split at e
  ·cases r1 with
   | @dK a ks ds kvs ep1 h1 e1 rr1=>
   cases r2 with
   | @dK a' ks' ds' kvs' ep2 h2 e2 rr2=>
   cases v1
   cases(show Value.ref a=Value.ref a' from v2)
   rw[h1]at h2
   cases h2
   subst e1 e2
   obtain⟨xs,f1,e⟩:=Option.bind_eq_some_iff.mp e
   obtain⟨ys,f2,e⟩:=Option.bind_eq_some_iff.mp e
   rw[f1]at f2
   cases f2
   rw[if_pos rfl]at e
   obtain⟨_,skv,_,hk,hv,nd⟩:=Zf1 I ⟨_,le _ _ h1⟩ f1
   have ndx:=Zkr f1 nd
   rw[←hk]at e ndx
   exact Zhd (Zf2 I le n) rr2 hv skv _ _ b (Zhc skv ndx) rr1 hv e
  ·exact Zl7 I le (Zf2 I le n) d1 d2 b x y v r1 v1 r2 v2 e
theorem rcM(I:Inv X pins σ H s)(le:Same F H){A:Around}{f:D→D→Option Bool}{d1 d2:D}{b:Bool}{x y:V}{v u:Value}
  (ih:∀d1 d2 b x y v u,Rep X.K F d1 x→RelV x v→Rep X.K F d2 y→RelV y u→f d1 d2=some b→SeqAt.EqAt A.in1 s v u b) (r1:RepN X.K F H d1 x) (v1:RelV x v) (r2:RepN X.K F H d2 y) (v2:RelV y u)
  (e:Zek f d1 d2=some b) (hu:A.units<cLine) (hr:Z5 x=false∨Z5 y=false):(∃a c,v= .ref a∧u= .ref c)∧SeqAt.RcAt A s v u b∧SeqAt.RcNeAt A s v u (!b):=by
 unfold Zek at e
 split at e
 ·obtain⟨a1,kvs1,rfl,ha1,rfl,rr1⟩:=r1.dK le
  obtain⟨a2,kvs2,rfl,ha2,rfl,rr2⟩:=r2.dK le
  cases v1;cases v2
  obtain⟨xs,f1,e⟩:=Option.bind_eq_some_iff.mp e
  obtain⟨ys,f2,e⟩:=Option.bind_eq_some_iff.mp e
  obtain⟨m1,skv1,sd1,hk1,hv1,_⟩:=Zf1 I ha1 f1
  obtain⟨m2,skv2,sd2,hk2,hv2,_⟩:=Zf1 I ha2 f2
  have l1:skv1.length=xs.length:=by rw[←hk1,List.length_map]
  have l2:skv2.length=ys.length:=by rw[←hk2,List.length_map]
  refine⟨⟨_,_,rfl,rfl⟩,?_⟩
  split at e
  ·rename_i hl
   rw[←hk1,←hk2]at e
   have hits:skv1.length=skv2.length→SHits A.in1 s skv2 skv1 b:=fun _=>Zml ih rr2 hv2 skv1 _ _ b rr1 hv1 e
   have hb:b=(skv1.length==skv2.length&&b):=by rw[l1,l2,hl];simp
   rw[hb]
   exact⟨Zjj m1 m2 sd1 sd2 hu hits,Zfh m1 m2 sd1 sd2 hu hits⟩
  ·rename_i hl
   cases e
   have hits:skv1.length=skv2.length→SHits A.in1 s skv2 skv1 false:=fun z=>absurd (by omega) hl
   have hb:false=(skv1.length==skv2.length&&false):=by simp
   rw[hb]
   exact⟨Zjj m1 m2 sd1 sd2 hu hits,Zfh m1 m2 sd1 sd2 hu hits⟩
 ·exact rcN I le ih r1 v1 r2 v2 e hu hr
theorem Zmm(I:Inv X pins σ H s)(le:Same F H):∀(n:Nat) (A:Around) (d1 d2:D) (b:Bool) (x y:V) (v u:Value),A.units+n<cLine→Rep X.K F d1 x→RelV x v→Rep X.K F d2 y→RelV y u→eqM n d1 d2=some b→SeqAt.EqAt A s v u b
 |0,_,_,_,_,_,_,_,_,_,_,_,_,_,e=>by cases e
 |n+1,A,d1,d2,b,x,y,v,u,hu,r1,v1,r2,v2,e=>by
  by_cases hf:Z5 x=true∧Z5 y=true
  ·have e':eqS d1 d2=some b:=by
    unfold eqM Zek at e
    split at e
    ·cases r1;cases hf.1
    ·unfold Zeh at e
     split at e
     ·cases r1;cases hf.1
     ·cases r1;cases hf.1
     ·cases r1;cases hf.1
     ·cases r1;cases hf.1
     ·exact e
   obtain⟨f1,f2,rfl⟩:=Zfw (H:=H) e' (RepN.of r1) (RepN.of r2)
   exact Zps v1 v2 f1 f2
  ·have hf':Z5 x=false∨Z5 y=false:=by
    cases h1:Z5 x with
    |false=>exact .inl rfl
    |true=>cases h2:Z5 y with
     |false=>exact .inr rfl
     |true=>exact absurd ⟨h1,h2⟩ hf
   obtain⟨⟨a,c,rfl,rfl⟩,h1,_⟩:=rcM I le (A:=A) (f:=eqM n) (fun d1 d2 b x y v u q1 w1 q2 w2 e=>Zmm I le n A.in1 d1 d2 b x y v u (by have:A.in1.units=A.units+1:=rfl;omega) q1 w1 q2 w2 e) (RepN.of r1) v1 (RepN.of r2) v2 e (by omega) hf'
   by_cases hac:a=c
   ·subst hac
    rw[Zf2 I le (n+1) d1 d2 b x y _ r1 v1 r2 v2 e]
    exact SeqAt.EqAt.same _
   ·exact SeqAt.EqAt.of_refs hac h1
noncomputable def rEqM(K:PySem.W.Frag)(neg:Bool):R2:=fun x y H Q=>∃F d1 d2 b,Same F H∧RepN K F H d1 x∧RepN K F H d2 y∧eqM 48 d1 d2=some b∧(Z5 x=false∨Z5 y=false)∧Q (.bl (if neg then !b else b)) H
theorem Zp3(hu:X.A.units+64<cLine):OpR X (compareOp .Eq) (rEqM X.K false):=by
 intro pins s σ H x y v u Q I rx ry h
 obtain⟨F,d1,d2,b,le,r1,r2,e,hf,q⟩:=h
 obtain⟨_,h1,_⟩:=rcM I le (A:=X.A) (f:=eqM 47) (fun d1 d2 b x y v u q1 w1 q2 w2 e=>Zmm I le 47 X.A.in1 d1 d2 b x y v u (by have:X.A.in1.units=X.A.units+1:=rfl;omega) q1 w1 q2 w2 e) r1 rx r2 ry e (by omega) hf
 exact h1 X.prog X.w X.xe _ ⟨.bl b,H,I,rfl,q⟩
theorem Zvu(hu:X.A.units+64<cLine):OpR X (compareOp .NotEq) (rEqM X.K true):=by
 intro pins s σ H x y v u Q I rx ry h
 obtain⟨F,d1,d2,b,le,r1,r2,e,hf,q⟩:=h
 obtain⟨_,_,h1⟩:=rcM I le (A:=X.A) (f:=eqM 47) (fun d1 d2 b x y v u q1 w1 q2 w2 e=>Zmm I le 47 X.A.in1 d1 d2 b x y v u (by have:X.A.in1.units=X.A.units+1:=rfl;omega) q1 w1 q2 w2 e) r1 rx r2 ry e (by omega) hf
 exact h1 X.prog X.w X.xe _ ⟨.bl !b,H,I,rfl,q⟩
end
end DL
namespace DL
open PySem PySem.Spec PyProof.Rows L2
variable{K:PySem.W.Frag}
@[simp] noncomputable def eqY(d1 d2:D):Option SV:=if d1.isFlat=true∧d2.isFlat=true then eqD d1 d2 else(eqM 48 d1 d2).bind fun b=>some (.fz (.bl b))
@[simp] noncomputable def neY(d1 d2:D):Option SV:=if d1.isFlat=true∧d2.isFlat=true then neD d1 d2 else(eqM 48 d1 d2).bind fun b=>some (.fz (.bl !b))
@[simp] noncomputable def inY(d1 d2:D):Option SV:=match d1,d2 with
 | .non,.dK _ _=>some (.fz (.bl false))
 |_,_=>inX d1 d2
@[simp] noncomputable def Zmn(d1 d2:D):Option SV:=match d1,d2 with
 | .non,.dK _ _=>some (.fz (.bl true))
 |_,_=>Zmg d1 d2
section
variable{Z:Ent K}
theorem Zmo{F H:Hp}{d1 d2:D}{x y:V}(r1:RepN K F H d1 x)(r2:RepN K F H d2 y)(hf:¬(d1.isFlat=true∧d2.isFlat=true)):Z5 x=false∨Z5 y=false:=by
 cases h1:d1.isFlat with
 |false=>exact .inl (Zfc r1 h1)
 |true=>cases h2:d2.isFlat with
  |false=>exact .inr (Zfc r2 h2)
  |true=>exact absurd ⟨h1,h2⟩ hf
theorem Zvv:Zaf Z (fun x y H Q=>rEq x y H Q∨rEqM K false x y H Q) eqY:=by
 intro F H σ δ own x y d1 d2 sv Q s r1 r2 e k
 unfold eqY at e
 split at e
 ·exact .inl (p_eq F H σ δ own x y d1 d2 sv Q s r1 r2 e k)
 ·rename_i hf
  obtain⟨b,e1,e2⟩:=Option.bind_eq_some_iff.mp e
  cases e2
  exact .inr ⟨F,d1,d2,b,s.le,r1,r2,e1,Zmo r1 r2 hf,k.fz s (.bl _)⟩
theorem Zyw:Zaf Z (fun x y H Q=>rNe x y H Q∨rEqM K true x y H Q) neY:=by
 intro F H σ δ own x y d1 d2 sv Q s r1 r2 e k
 unfold neY at e
 split at e
 ·exact .inl (p_ne F H σ δ own x y d1 d2 sv Q s r1 r2 e k)
 ·rename_i hf
  obtain⟨b,e1,e2⟩:=Option.bind_eq_some_iff.mp e
  cases e2
  exact .inr ⟨F,d1,d2,b,s.le,r1,r2,e1,Zmo r1 r2 hf,k.fz s (.bl _)⟩
theorem Zyx:Zaf Z (fun x y H Q=>((∃i j,x= .str i∧y= .str j∧Q (.bl (!(Builtin.Str.occurrences j i 0 j.length 1).isEmpty)) H)∨rDIn x y H Q)∨Zff false x y H Q) inY:=by
 intro F H σ δ own x y d1 d2 sv Q s r1 r2 e k
 unfold inY at e
 split at e
 ·cases e
  obtain⟨a,kvs,rfl,ha,_,_⟩:=r2.dK s.le
  exact .inr ⟨a,kvs,r1.non,rfl,ha.rd,k.fz s (.bl _)⟩
 ·exact .inl (Zyr F H σ δ own x y d1 d2 sv Q s r1 r2 e k)
theorem Zo0:Zaf Z (fun x y H Q=>((∃i j,x= .str i∧y= .str j∧Q (.bl (!(!(Builtin.Str.occurrences j i 0 j.length 1).isEmpty))) H)∨Zej x y H Q)∨Zff true x y H Q) Zmn:=by
 intro F H σ δ own x y d1 d2 sv Q s r1 r2 e k
 unfold Zmn at e
 split at e
 ·cases e
  obtain⟨a,kvs,rfl,ha,_,_⟩:=r2.dK s.le
  exact .inr ⟨a,kvs,r1.non,rfl,ha.rd,k.fz s (.bl _)⟩
 ·exact .inl (Zow F H σ δ own x y d1 d2 sv Q s r1 r2 e k)
end
section
variable{X:Cx}{Z:Ent X.K}{a b c:Expr}{fa fb fc:FE}{pos:Pos}
theorem Zvw(hv:X.A.units+64<cLine)(ha:PE X a (Zb Z fa))(hb:PE X b (Zb Z fb)):PE X (.Compare a [.Eq] [b] pos) (Zb Z (binF eqY fa fb)):=Zru (Zuc.or (Zp3 hv)) Zvv ha hb (Zdn _)
theorem Zr8(hv:X.A.units+64<cLine)(ha:PE X a (Zb Z fa))(hb:PE X b (Zb Z fb)):PT X (.Compare a [.Eq] [b] pos) (Zw Z (Z6 (binF eqY fa fb))):=Zg4 (Zuc.or (Zp3 hv)) Zvv ha hb (Zdn _)
theorem Zhe(hv:X.A.units+64<cLine)(ha:PE X a (Zb Z fa))(hb:PE X b (Zb Z fb)):PT X (.Compare a [.NotEq] [b] pos) (Zw Z (Z6 (binF neY fa fb))):=Zg4 (Zxk.or (Zvu hv)) Zyw ha hb (Zdn _)
end
end DL
namespace DL
open PySem PySem.Spec PyProof.Rows L2
variable{K:PySem.W.Frag}
section
variable{Z:Ent K}{H:Hp}{σ:L2.St}{Q:VK}{E:Ends}
@[simp] noncomputable def Z17:FE:=fun δ=>some (.tmp (.oN [] []),δ)
@[simp] noncomputable def Z18(i j:Nat):FS:=fun δ=>match δ[i]?,δ[j]? with
 |some (some (.oN ks xss)),some (some (.fz kd))=>kd.key?.bind fun k=>if(ks.any fun x=>decide (x=k))=false∧xss.length<PySem.sizeLine then some (.nx (δ.set i (some (.oN (ks++[k]) (xss++[[]])))))else none
 |_,_=>none
end
@[simp] noncomputable def Zp4:List Key→Key→Option Nat
 | [],_=>none
 |a::r,k=>if a=k then some 0 else(Zp4 r k).map (· +1)
section
variable{Z:Ent K}{H:Hp}{σ:L2.St}{Q:VK}{E:Ends}
@[simp] noncomputable def Z19(i j:Nat)(fe:FE):FS:=fun δ=>match δ[i]?,δ[j]? with
 |some (some (.oN ks _)),some (some (.fz kd))=>kd.key?.bind fun k=>(Zp4 ks k).bind fun p=>(fe δ).bind fun q=>(frz q.1 q.2).bind fun r=>match r.2[i]? with
  |some (some (.oN ks' xss))=>if ks'=ks then(xss[p]?).bind fun xs=>if xs.length<PySem.sizeLine then some (.nx (r.2.set i (some (.oN ks (xss.set p (xs++[r.1]))))))else none else none
  |_=>none
 |_,_=>none
end
end DL
namespace DL
open PySem PySem.Spec PyProof.Rows L2
variable{K:PySem.W.Frag}
section
variable{Z:Ent K}{H:Hp}{σ:L2.St}{E:Ends}
@[simp] noncomputable def retZ(fe:FE):FS:=fun δ=>(fe δ).bind fun p=>(frz p.1 p.2).bind fun q=>some (.rt (.fz q.1))
end
section
variable{X:Cx}{Z:Ent X.K}{a b c:Expr}{fa fb fc:FE}{pos:Pos}
end
end DL
namespace L2
open PySem PySem.Spec PyProof.Rows
variable{X:Cx}
theorem Zjl{x:V}:∀{xs:List V} {us:List Value},Vals xs us→xs.all Z5=true→us.findIdx? (eqU x)=xs.findIdx? fun y=>eqV y x
 |_,_,.nil,_=>rfl
 |y::xs,u::us,.cons r t,f=>by
  rw[List.all_cons,Bool.and_eq_true]at f
  rw[List.findIdx?_cons,List.findIdx?_cons,Zlm r f.1,Zjl t f.2]
noncomputable def Zmp(K:PySem.W.Frag):V→List V→Hp→VK→Prop:=fun x xs H Q=>∃p ys y j,x= .ref p∧xs=[y]∧SqL K H p ys∧Z5 y=true∧ys.all Z5=true∧(ys.findIdx? fun z=>eqV z y)=some j∧Q (.int (j:Nat)) H
theorem Zo1:MtR X "list.index" (Zmp X.K):=by
 intro pins s σ H x xs v us Q I rx rs h
 obtain⟨p,ys,y,j,rfl,rfl,hq,fy,fs,hj,q⟩:=h
 cases rx
 obtain⟨u,rfl,ru⟩:=Zey rs
 obtain⟨its,r,⟨⟨cls,dd,data,sl⟩,n,e,hc,hdd,hd⟩,hz⟩:=I.list hq
 simp only at hc hdd hd
 subst hc hd
 rw[←Zjl r fs]at hj
 obtain⟨h1,h2,h3⟩:=List.findIdx?_eq_some_iff_getElem.mp hj
 have hl:its.length≤sizeLine:=by rw[←r.length];exact hz
 have hs:(sizeLine:Nat)<2^63- 1:=by decide
 refine call_meets PySem.F.slot_list_index ⟨_,e,rfl⟩ PySem.F.entry_list_index (PySem.F.args_list_index_2 _ _) (PySem.SeqAt.list_indexAt p its.toArray n dd sl u (eqU y) j (by simpa using h1) (by omega) (by simpa using h2) (fun m hm hmj=>by have:=h3 m hmj;simpa using this)) ⟨e,fun w hw=>Zcb ru fy r fs w (by simpa using hw),.int _,H,I.tok _,⟨_,rfl⟩,q⟩
noncomputable def Zyy:V→List V→Hp→VK→Prop:=fun x xs H Q=>∃a b i rest,x= .str a∧xs=[.str b]∧Builtin.Str.occurrences a b 0 a.length 1=i::rest∧Q (.int (i:Nat)) H
noncomputable def Zyz:V→List V→Hp→VK→Prop:=fun x xs H Q=>∃a b,x= .str a∧xs=[.str b]∧a.length≤sizeLine∧Q (.str (Txt.rstripChars a b)) H
noncomputable def Zvx:R2:=fun x y H Q=>∃a k,x= .str a∧y= .int k∧MulOk a k∧Q (.str (Txt.mul a k)) H
theorem Zr9:OpR X (binaryOp .Mult) Zvx:=by
 intro pins s σ H x y v u Q I rx ry h
 obtain⟨a,k,rfl,rfl,hm,q⟩:=h
 obtain⟨t,rfl⟩:=rx
 obtain⟨t',rfl⟩:=ry
 exact SB.mul hm fun t' k=>⟨.str _,H,I.tok _,⟨_,rfl⟩,q⟩
end L2
namespace DL
open PySem PySem.Spec PyProof.Rows L2
variable{K:PySem.W.Frag}
@[simp] noncomputable def D.fv:D→V
 | .bl b=>.bl b
 | .int i=>.int i
 | .str x=>.str x
 |_=>.non
theorem Zo2{F H:Hp}{d:D}{x:V}(r:RepN K F H d x)(h:d.isFlat=true):x=d.fv∧Z5 x=true:=by
 cases d with
 |non=>rw[r.non];exact⟨rfl,rfl⟩
 |bl b=>rw[r.bl];exact⟨rfl,rfl⟩
 |int i=>rw[r.int];exact⟨rfl,rfl⟩
 |str y=>rw[r.str];exact⟨rfl,rfl⟩
 |_=>cases h
theorem Zjm{F:Hp}:∀{ds:List D} {vs:List V},Reps K F ds vs→ds.all D.isFlat=true→vs=ds.map D.fv∧vs.all Z5=true
 |_,_,.nil,_=>⟨rfl,rfl⟩
 |_,_,.cons h t,e=>by
  rw[List.all_cons,Bool.and_eq_true]at e
  obtain⟨a1,a2⟩:=Zo2 (H:=F) (RepN.of h) e.1
  obtain⟨b1,b2⟩:=Zjm t e.2
  refine⟨by rw[List.map_cons,←a1,←b1],by rw[List.all_cons,a2,b2];rfl⟩
noncomputable def eqFl(y x:D):Bool:=eqV y.fv x.fv
@[simp] theorem Zjn(a b:Str):eqFl (.str a) (.str b)=decide (a=b):=by
 show(a==b)=decide (a=b)
 by_cases h:a=b
 ·subst h;simp
 ·rw[decide_eq_false h];exact beq_eq_false_iff_ne.mpr h
@[simp] theorem Zy0(a b:Bool):eqFl (.bl a) (.bl b)=decide (a=b):=by cases a<;> cases b<;> rfl
@[simp] theorem Zw5:eqFl .non .non=true:=rfl
@[simp] theorem Zy1(a:Str):eqFl (.str a) .non=false:=rfl
noncomputable def inFl(x:D)(xs:List D):Bool:=xs.any fun y=>eqFl y x
theorem Zmq{d:D}{ds:List D}:inV d.fv (ds.map D.fv)=inFl d ds:=by
 unfold inV inFl
 rw[List.any_map];rfl
noncomputable def D.seq?:D→Option (List D)
 | .lst xs=>some xs
 | .tup xs=>some xs
 |_=>none
@[simp] theorem Zy2(xs:List D):D.seq? (.lst xs)=some xs:=rfl
@[simp] theorem Zy3(xs:List D):D.seq? (.tup xs)=some xs:=rfl
@[simp] theorem Zy4(x:Str):D.seq? (.str x)=none:=rfl
@[simp] theorem Z0t(ks:List Key)(vs:List D):D.seq? (.dK ks vs)=none:=rfl
@[simp] theorem Z0u(ks:List (List Key))(vs:List D):D.seq? (.dT ks vs)=none:=rfl
@[simp] noncomputable def inZ(d1 d2:D):Option SV:=match d2.seq? with
 |some xs=>if d1.isFlat=true∧xs.all D.isFlat=true then some (.fz (.bl (inFl d1 xs)))else none
 |none=>inY d1 d2
@[simp] noncomputable def Zjo(d1 d2:D):Option SV:=match d2.seq? with
 |some xs=>if d1.isFlat=true∧xs.all D.isFlat=true then some (.fz (.bl (!inFl d1 xs)))else none
 |none=>Zmn d1 d2
section
variable{Z:Ent K}{H:Hp}{σ:L2.St}{Q:VK}{E:Ends}
theorem Zp5{F:Hp}{d:D}{x:V}{xs:List D}(le:Same F H)(r:RepN K F H d x)(h:d.seq? =some xs):∃a vs,x= .ref a∧(SqL K H a vs∨SqT K H a vs)∧Reps K F xs vs:=by
 cases d with
 |lst ys=>cases h;obtain⟨a,vs,e,q,rr⟩:=r.lst le;exact⟨a,vs,e,.inl q,rr⟩
 |tup ys=>cases h;obtain⟨a,vs,e,q,rr⟩:=r.tup le;exact⟨a,vs,e,.inr q,rr⟩
 |_=>cases h
theorem Zvy:Zaf Z (fun x y H Q=>(((∃i j,x= .str i∧y= .str j∧Q (.bl (!(Builtin.Str.occurrences j i 0 j.length 1).isEmpty)) H)∨rDIn x y H Q)∨Zff false x y H Q)∨rIn K false x y H Q) inZ:=by
 intro F H σ δ own x y d1 d2 sv Q s r1 r2 e k
 unfold inZ at e
 split at e
 ·rename_i xs hx
  split at e
  ·rename_i hf
   cases e
   obtain⟨a,vs,rfl,hq,rr⟩:=Zp5 s.le r2 hx
   obtain⟨e1,f1⟩:=Zo2 r1 hf.1
   obtain⟨e2,f2⟩:=Zjm rr hf.2
   refine .inr ⟨a,vs,rfl,hq,f1,f2,?_⟩
   rw[e1,e2,Zmq]
   exact k.fz s (.bl _)
  ·cases e
 ·exact .inl (Zyx F H σ δ own x y d1 d2 sv Q s r1 r2 e k)
theorem Zo3:Zaf Z (fun x y H Q=>(((∃i j,x= .str i∧y= .str j∧Q (.bl (!(!(Builtin.Str.occurrences j i 0 j.length 1).isEmpty))) H)∨Zej x y H Q)∨Zff true x y H Q)∨rIn K true x y H Q) Zjo:=by
 intro F H σ δ own x y d1 d2 sv Q s r1 r2 e k
 unfold Zjo at e
 split at e
 ·rename_i xs hx
  split at e
  ·rename_i hf
   cases e
   obtain⟨a,vs,rfl,hq,rr⟩:=Zp5 s.le r2 hx
   obtain⟨e1,f1⟩:=Zo2 r1 hf.1
   obtain⟨e2,f2⟩:=Zjm rr hf.2
   refine .inr ⟨a,vs,rfl,hq,f1,f2,?_⟩
   rw[e1,e2,Zmq]
   exact k.fz s (.bl _)
  ·cases e
 ·exact .inl (Zo0 F H σ δ own x y d1 d2 sv Q s r1 r2 e k)
@[simp] noncomputable def Zel:List D→Option SV
 | [.lst xs,x]=>if x.isFlat=true∧xs.all D.isFlat=true then(xs.findIdx? fun y=>eqFl y x).bind fun j=>some (.fz (.int (j:Nat)))else none
 |_=>none
theorem Zsa:Zrs Z (Zmp K) Zel:=by
 intro F H σ δ own vs ds sv Q s r e k
 unfold Zel at e
 split at e
 ·rename_i xs x
  split at e
  ·rename_i hf
   obtain⟨j,e1,e2⟩:=Option.bind_eq_some_iff.mp e
   cases e2
   cases r with
   |cons h1 t=>cases t with
    |cons h2 t=>
     cases t
     obtain⟨a,us,rfl,hq,rr⟩:=h1.lst s.le
     obtain⟨g1,f1⟩:=Zo2 h2 hf.1
     obtain⟨g2,f2⟩:=Zjm rr hf.2
     refine⟨_,_,rfl,a,us,_,j,rfl,rfl,hq,f1,f2,?_,k.fz s (.int _)⟩
     rw[g1,g2,List.findIdx?_map]
     exact e1
  ·cases e
 ·cases e
@[simp] noncomputable def Zy5:List D→Option SV
 | [.str a,.str b]=>match Builtin.Str.occurrences a b 0 a.length 1 with
  |i::_=>some (.fz (.int (i:Nat)))
  | []=>none
 |_=>none
@[simp] noncomputable def Zy6:List D→Option SV
 | [.str a,.str b]=>if a.length≤PySem.sizeLine then some (.fz (.str (Txt.rstripChars a b)))else none
 |_=>none
open Classical in
noncomputable def mulS(a:Str)(k:Int):Option SV:=if MulOk a k then some (.fz (.str (Txt.mul a k)))else none
theorem Zsb{a:Str}{k:Int}{sv:SV}(h:mulS a k=some sv):MulOk a k∧sv= .fz (.str (Txt.mul a k)):=by
 unfold mulS at h
 split at h
 ·rename_i hm;cases h;exact⟨hm,rfl⟩
 ·cases h
noncomputable def Zsc(i j:Int):Prop:=cMul i j=true
open Classical in
noncomputable def mulI(i j:Int):Option SV:=if Zsc i j then some (.fz (.int (i*j)))else none
theorem Zsd{i j:Int}{sv:SV}(h:mulI i j=some sv):mulD (.int i) (.int j)=some sv:=by
 unfold mulI at h
 split at h
 ·rename_i hc
  cases h
  unfold Zsc at hc
  simp[hc]
 ·cases h
theorem Zp6{i j:Int}(h:-(2^64)<j∧j<2^64):mulI i j=some (.fz (.int (i*j))):=by
 unfold mulI
 rw[if_pos]
 unfold Zsc cMul
 rw[decide_eq_true h.1,decide_eq_true h.2];simp
noncomputable def mulZ:D→D→Option SV
 | .str a,.int k=>mulS a k
 | .int i,.int j=>mulI i j
 |_,_=>none
@[simp] theorem Zy7(a:Str)(k:Int):mulZ (.str a) (.int k)=mulS a k:=rfl
@[simp] theorem Zy8(i j:Int):mulZ (.int i) (.int j)=mulI i j:=rfl
theorem Zvz:Zaf Z (fun x y H Q=>rI CMul (fun i j=>V.int (i*j)) x y H Q∨Zvx x y H Q) mulZ:=by
 intro F H σ δ own x y d1 d2 sv Q s r1 r2 e k
 unfold mulZ at e
 split at e
 ·obtain⟨hm,rfl⟩:=Zsb e
  exact .inr ⟨_,_,r1.str,r2.int,hm,k.fz s (.str _)⟩
 ·exact .inl (Zye F H σ δ own x y _ _ sv Q s r1 r2 (Zsd e) k)
 ·cases e
@[simp] noncomputable def strD:List D→Option SV
 | [.int i]=>if i.natAbs.log2<1920 then some (.fz (.str (toString i)))else none
 |_=>none
theorem Zv0:Zft Z (fun xs H Q=>∃i:Int,xs=[.int i]∧i.natAbs.log2<1920∧Q (.str (toString i)) H) strD:=by
 intro F H σ δ own vs ds sv Q s r e k
 unfold strD at e
 split at e
 ·split at e
  ·rename_i hm
   cases e
   cases r with
   |cons h1 t=>cases t;exact⟨_,by rw[h1.int],hm,k.fz s (.str _)⟩
  ·cases e
 ·cases e
@[simp] noncomputable def Zv1(kd d:D):Option (Option SV)→Option SV
 |some (some (.ol xs))=>match kd with
  | .int i=>(ixN xs.length i).bind fun j=>some (.ol (xs.set j d))
  |_=>none
 |_=>none
@[simp] noncomputable def SV.isOL:Option (Option SV)→Bool
 |some (some (.ol _))=>true
 |_=>false
theorem Zse{o:Option (Option SV)}(h:SV.isOL o=true):∃xs,o=some (some (.ol xs)):=by
 unfold SV.isOL at h
 split at h
 ·exact⟨_,rfl⟩
 ·cases h
@[simp] noncomputable def Zo4(i:Nat)(fk fv:FE):FS:=fun δ=>(fv δ).bind fun p=>(frz p.1 p.2).bind fun q=>if SV.isOL (q.2[i]?)=true then(fk q.2).bind fun r=>(rdv r.1 r.2).bind fun kd=>(Zv1 kd q.1 (r.2[i]?)).bind fun sv=>some (.nx (r.2.set i (some sv)))else none
theorem Reps.set{F:Hp}{d:D}{v:V}(h:Rep K F d v):∀{ds:List D} {vs:List V} (j:Nat),Reps K F ds vs→Reps K F (ds.set j d) (vs.set j v)
 |_,_,_,.nil=>.nil
 |_,_,0,.cons _ t=>.cons h t
 |_,_,j+1,.cons g t=>.cons g (Reps.set h j t)
theorem Zv2{i:Nat}{fk fv:FE}(h:Zy Z (Zo4 i fk fv) E σ H):tAsg (Zb Z fv) (gSub (tVar i) (Zb Z fk) Zuq) E σ H:=by
 obtain⟨F,δ,own,fl,s,e,k⟩:=h
 obtain⟨⟨rv,δ1⟩,e1,e⟩:=Option.bind_eq_some_iff.mp e
 obtain⟨⟨d,δ2⟩,e2,e⟩:=Option.bind_eq_some_iff.mp e
 dsimp only at e
 split at e
 ·rename_i hol
  obtain⟨⟨rk,δ3⟩,e3,e⟩:=Option.bind_eq_some_iff.mp e
  obtain⟨kd,e4,e⟩:=Option.bind_eq_some_iff.mp e
  obtain⟨sv,e5,e⟩:=Option.bind_eq_some_iff.mp e
  cases e
  refine⟨F,δ,own,rv,δ1,s,e1,fun v H1 F1 own1 sH1 sF1 s1 r1=>?_⟩
  obtain⟨F2,sF2,s2,r2⟩:=s1.settleR r1
  obtain⟨F3,own3,sF3,s3,r3⟩:=s2.frzR r2 e2
  obtain⟨xs0,hxs0⟩:=Zse hol
  obtain⟨x,hx,_⟩:=s3.at' i _ hxs0
  refine⟨x,hx,F3,δ2,own3,rk,δ3,s3,e3,fun y H4 F4 own4 sH4 sF4 s4 r4=>?_⟩
  obtain⟨F5,sF5,s5,r5⟩:=s4.settleR r4
  have rk':=s5.rd r5 e4
  have rd:Rep K F5 d v:=r3.mono (sF4.trans sF5)
  have sF:Same F F5:=sF1.trans (sF2.trans (sF3.trans (sF4.trans sF5)))
  dsimp only at e5
  generalize ho:δ3[i]? =o at e5
  unfold Zv1 at e5
  split at e5
  ·rename_i xs
   split at e5
   ·rename_i n
    obtain⟨j,f1,f2⟩:=Option.bind_eq_some_iff.mp e5
    cases f2
    obtain⟨x',hx',sh⟩:=s5.at' i _ ho
    rw[hx]at hx';cases hx'
    obtain⟨a,vs,ea,en,rr⟩:=Zcx sh
    subst ea
    have mb:(a,HO.lst vs)∈own4 i:=by rw[en];exact List.mem_cons_self
    have hH:=(s5.ok i _ mb).2.2
    refine⟨a,vs,n,j,rfl,rk'.int,hH,by rw[←rr.length];exact f1,?_⟩
    exact k σ _ F5 _ sF (s5.change (sv':=.ol (xs.set j d)) (o':=.lst (vs.set j v)) (ns':=[(a,.lst (vs.set j v))]) ho hx mb (.ol (Reps.set rd j rr)) (fun p hp=>.inl (List.mem_singleton.mp hp)) nd1)
   ·cases e5
  ·cases e5
 ·cases e
@[simp] noncomputable def SV.ol?:RV→Option (List D)
 | .tmp (.ol ys)=>some ys
 |_=>none
@[simp] noncomputable def extF(i:Nat)(fe:FE):FS:=fun δ=>match δ[i]? with
 |some (some (.ol _))=>(fe δ).bind fun p=>(SV.ol? p.1).bind fun ys=>match p.2[i]? with
  |some (some (.ol xs))=>if xs.length+ys.length≤PySem.sizeLine then some (.nx (p.2.set i (some (.ol (xs++ys)))))else none
  |_=>none
 |_=>none
end
section
variable{X:Cx}{Z:Ent X.K}{a b c:Expr}{fa fb fc:FE}{pos:Pos}
theorem Zy9(hu:X.A.units+1<cLine)(ha:PE X a (Zb Z fa))(hb:PE X b (Zb Z fb))(hm:behindInMarks .In b=false:=by rfl):PE X (.Compare a [.In] [b] pos) (Zb Z (binF inZ fa fb)):=Zru (((Zgh.or (Zfd hu)).or Zha).or Zgo) Zvy ha hb hm
theorem Zsf(hu:X.A.units+1<cLine)(ha:PE X a (Zb Z fa))(hb:PE X b (Zb Z fb))(hm:behindInMarks .In b=false:=by rfl):PT X (.Compare a [.In] [b] pos) (Zw Z (Z6 (binF inZ fa fb))):=Zg4 (((Zgh.or (Zfd hu)).or Zha).or Zgo) Zvy ha hb hm
theorem Zo5(hu:X.A.units+1<cLine)(ha:PE X a (Zb Z fa))(hb:PE X b (Zb Z fb))(hm:behindInMarks .NotIn b=false:=by rfl):PT X (.Compare a [.NotIn] [b] pos) (Zw Z (Z6 (binF Zjo fa fb))):=Zg4 (((Zgq.or (Zfy hu)).or Zhb).or Zgp) Zo3 ha hb hm
theorem Zp7(ha:PE X a (Zb Z fa))(hb:PE X b (Zb Z fb)):PE X (.BinOp a .Mult b pos) (Zb Z (binF mulZ fa fb)):=Zl1 (Zt9.or Zr9) Zvz ha hb
theorem Zv3{p:Pos}(hm:X.mg "str"=none)(ha:PE X a (Zb Z fa))(hg:Gl X "str":=by rfl)(he:starEach [a] X.env=(false,eval a X.env)::starEach [] X.env:=by rfl)(hpl:(backTo pos (starEach [] X.env)).any (·.1)=false:=by rfl):PE X (.Call (.Name "str" p) [a] [] pos) (Zb Z (Zbk strD (Zd fa Zh))):=
 Zl2 Zgi Zv0 hm boot_str (Zm ha Za7 he) hg (by decide) (by decide) he hpl
theorem Zf3{apos cpos:Pos}(ha:PE X a (Zb Z fa))(hb:PE X b (Zb Z fb))(hbase:attributeBase a "index" X.env (eval a X.env)=eval a X.env:=by rfl)
  (hfew:((backTo cpos (starEach [b] X.env)).all (fun x=>!x.1)&&(backToKw cpos (keywordEach [] X.env)).all (fun x=>x.1.isSome)&&decide ([b].length+([]:List Keyword).length+(if([]:List Keyword).isEmpty then 0 else 1)<30))=true:=by rfl)
  (hline:(apos.endLine==cpos.line)=true:=by rfl) (hs:starEach [b] X.env=(false,eval b X.env)::starEach [] X.env:=by rfl) (hpl:(backTo cpos (starEach [] X.env)).any (·.1)=false:=by rfl):
  PE X (.Call (.Attribute a "index" apos) [b] [] cpos) (Zb Z (bmF "list" Zel fa (Zd fb Zh))):=
 (Zn5 PySem.F.plainAttrs_list PySem.F.slot_list_index PySem.F.type_list_index Zo1 ha (Zm hb Za7 hs) hbase hfew hline hs hpl).imp fun _ _ _ h=>l_bm Zsa h
theorem Zp8(i:Nat){x:Str}{px p1:Pos}(hb:PE X b (Zb Z fb))(hv':PE X a (Zb Z fa))(hN:X.N[i]? =some x:=by rfl)(hv:Vis X.env.scope x:=by first|exact Or.inl rfl|exact Or.inr (Or.inl rfl)|exact Or.inr (Or.inr rfl))(hd:(x==("__debug__":Str))=false:=by decide)
  (hcd:(x==("__classdict__":Str))=false:=by decide) (hs:swapsWithSole [.Subscript (.Name x px) b p1] a pos.line X.env=pure false:=by rfl) (hw:swappedStores [.Subscript (.Name x px) b p1] a X.env=pure none:=by rfl)
  (h1:(assignEach [.Subscript (.Name x px) b p1] X.env).map (·.2)=[assign (.Subscript (.Name x px) b p1) X.env]:=by rfl)
  (ha:∀v,assign (.Subscript (.Name x px) b p1) X.env v=(do
   let ov←holding [v] (eval (.Name x px) X.env)
   let iv←holding [v,ov] (eval b X.env)
   standAt p1
   holding [v,ov,iv] (setItem ov iv v)
   release [v,ov,iv] []):=by intro _;rfl):
  PS X (.Assign [.Subscript (.Name x px) b p1] a pos) (Zy Z (Zo4 i fb fa)):=(Zpp hv' (Zt3 (Zi2 (i:=i) hN hv hd hcd) hb Zn4 ha) hs hw h1).imp fun _ _ _ h=>Zv2 h
end
end DL
namespace DL
open PySem PySem.Spec PyProof.Rows L2
end DL
namespace DL
open PySem PySem.Spec PyProof.Rows L2
variable{K:PySem.W.Frag}
section
variable{Z:Ent K}{H:Hp}{σ:L2.St}{Q:Bool→Hp→Prop}
@[simp] noncomputable def Zo6(f:FT):FT:=fun δ=>(f δ).bind fun p=>some (p.1,δ)
theorem Zsg{f:FT}(h:Zw Z (Zo6 f) σ H Q):Zw Z f σ H Q:=by
 obtain⟨F,δ,own,b,δ',s,e,k⟩:=h
 obtain⟨⟨b1,δ1⟩,e1,e2⟩:=Option.bind_eq_some_iff.mp e
 cases e2
 exact⟨F,δ,own,b1,δ1,s,e1,fun H' F' own' sH sF s'=>k H' F own sH (Same.refl F) (s.grow sH)⟩
end
section
variable{X:Cx}{Z:Ent X.K}{a:Expr}{ft:FT}
theorem Zp9(ha:PT X a (Zw Z ft)):PT X a (Zw Z (Zo6 ft)):=ha.imp fun _ _ _ h=>Zsg h
end
end DL
namespace DL
open PySem PySem.Spec PyProof.Rows L2
variable{K:PySem.W.Frag}
noncomputable def repP(n:Nat)(k:Int):Prop:=-(2^63)≤k∧k<2^63∧n*k.toNat≤PySem.sizeLine
section
variable{Z:Ent K}{H:Hp}{σ:L2.St}{Q:VK}
open Classical in
noncomputable def repI(xs:List D):D→Option SV
 | .int k=>if repP xs.length k then some (.ol (List.replicate k.toNat xs).flatten)else none
 |_=>none
@[simp] theorem Zw6{xs:List D}{k:Int}(h:repP xs.length k):repI xs (.int k)=some (.ol (List.replicate k.toNat xs).flatten):=by
 unfold repI;dsimp only;rw[if_pos h]
@[simp] noncomputable def repF(fa fb:FE):FE:=fun δ=>(fa δ).bind fun p=>(SV.ol? p.1).bind fun xs=>(fb p.2).bind fun q=>(rdv q.1 q.2).bind fun d=>(repI xs d).bind fun sv=>some (.tmp sv,q.2)
end
section
variable{X:Cx}{Z:Ent X.K}{a b:Expr}{fa fb:FE}{pos:Pos}
end
end DL
namespace DL
open PySem PySem.Spec PyProof.Rows L2
variable{K:PySem.W.Frag}
section
variable{Z:Ent K}
@[simp] noncomputable def slT:D→Option Int→Option Int→Option SV
 | .tup xs,lo,hi=>if¬(HT.sIx xs.length 0 lo=0∧HT.sIx xs.length xs.length hi=xs.length)then some (.fz (.tup (cutD xs lo hi)))else none
 |_,_,_=>none
theorem Zza:Zrp Z (rSlT K) slT:=by
 intro F H σ δ own x d lo hi sv Q s r1 e k
 unfold slT at e
 split at e
 ·split at e
  ·rename_i hw
   cases e
   obtain⟨a,vs,ex,ha,ra⟩:=r1.tup s.le
   exact⟨a,vs,ex,ha,by rw[←ra.length];exact hw,fun p hp=>k.tup s (ra.cut _ _) hp⟩
  ·cases e
 ·cases e
end
section
variable{X:Cx}{Z:Ent X.K}{a:Expr}{fa:FE}{pos:Pos}
theorem Zv4{lo hi:Option Expr}{fl fh:FO}{p2:Pos}(ha:PE X a (Zb Z fa))(hl:PO X lo (Ze0 Z fl))(hh:PO X hi (Ze0 Z fh)):PE X (.Subscript a (.Slice lo hi none p2) pos) (Zb Z (slF slT fa fl fh)):=
 (Zi4 Zum ha hl hh).imp fun _ _ _ h=>l_sl Zza h
end
end DL
namespace DL
open PySem L2
variable{K:PySem.W.Frag}
inductive RX where
 |v (rv:RV) (δ:DSt)|x (e:Exn) (δ:DSt)
inductive RL(α:Type)where
 |v (xs:List α) (δ:DSt)|x (e:Exn) (δ:DSt)
noncomputable abbrev FX:=DSt→Option RX
noncomputable abbrev FAX:=DSt→Option (RL RV)
noncomputable abbrev FDX:=DSt→Option (RL D)
noncomputable def XOk(Z:Ent K)(F:Hp)(σ:St)(e:Exn)(δ:DSt):Prop:=∀H' F' own' cls od,Same F F'→SR Z F' H' σ δ own'→Zi8 K F' e cls od→Z.x cls od σ H'
noncomputable def Zzb(Z:Ent K)(f:FX):TE:=fun σ H Q=>∃F δ own r,SR Z F H σ δ own∧f δ=some r∧match r with
 | .v rv δ'=>∀v H' F' own',Same H H'→Same F F'→SR Z F' H' σ δ' own'→Zlu Z F' H' σ own' rv v→Q v H'
 | .x e δ'=>XOk Z F σ e δ'
noncomputable def Z0v(Z:Ent K)(f:FAX):TA:=fun σ H Q=>∃F δ own r,SR Z F H σ δ own∧f δ=some r∧match r with
 | .v rvs δ'=>∀vs H' F' own',Same H H'→Same F F'→SR Z F' H' σ δ' own'→RVSs K F' σ rvs vs→Q vs H'
 | .x e δ'=>XOk Z F σ e δ'
noncomputable def Z0w(Z:Ent K)(f:FDX):TA:=fun σ H Q=>∃F δ own r,SR Z F H σ δ own∧f δ=some r∧match r with
 | .v ds δ'=>∀vs H' F' own',Same H H'→Same F F'→SR Z F' H' σ δ' own'→Reps K F' ds vs→Q vs H'
 | .x e δ'=>XOk Z F σ e δ'
@[simp] noncomputable def FX.val(f:FX):FE:=fun δ=>match f δ with
 |some (.v rv δ')=>some (rv,δ')
 |_=>none
section
variable{Z:Ent K}{H:Hp}{σ:St}{Q:VK}{E:Ends}
@[simp] noncomputable def Z2a(fe:FE):FX:=fun δ=>(fe δ).bind fun p=>some (.v p.1 p.2)
@[simp] noncomputable def Zzc:FAX:=fun δ=>some (.v [] δ)
@[simp] noncomputable def Zw7(fx:FX)(fa:FAX):FAX:=fun δ=>(fx δ).bind fun
 | .v rv δ1=>(fa δ1).bind fun
  | .v rvs δ2=>some (.v (rv::rvs) δ2)
  | .x e δ2=>some (.x e δ2)
 | .x e δ1=>some (.x e δ1)
@[simp] noncomputable def Zw8:FDX:=fun δ=>some (.v [] δ)
@[simp] noncomputable def Zv5(fx:FX)(fd:FDX):FDX:=fun δ=>(fx δ).bind fun
 | .v rv δ1=>(frz rv δ1).bind fun q=>(fd q.2).bind fun
  | .v ds δ2=>some (.v (q.1::ds) δ2)
  | .x e δ2=>some (.x e δ2)
 | .x e δ1=>some (.x e δ1)
@[simp] noncomputable def tupX(fd:FDX):FX:=fun δ=>(fd δ).bind fun
 | .v ds δ1=>if ds.length≤PySem.sizeLine then some (.v (.tmp (.fz (.tup ds))) δ1)else none
 | .x e δ1=>some (.x e δ1)
@[simp] noncomputable def Z2b(g:List D→Option SV)(fa:FAX):FX:=fun δ=>(fa δ).bind fun
 | .v rvs δ1=>(Zco rvs δ1).bind fun ds=>(g ds).bind fun sv=>some (.v (.tmp sv) δ1)
 | .x e δ1=>some (.x e δ1)
@[simp] noncomputable def binX(g:D→D→Option SV)(fa fb:FX):FX:=fun δ=>(fa δ).bind fun
 | .x e δ1=>some (.x e δ1)
 | .v r1 δ1=>(fb δ1).bind fun
  | .x e δ2=>some (.x e δ2)
  | .v r2 δ2=>(rdv r1 δ2).bind fun d1=>(rdv r2 δ2).bind fun d2=>(g d1 d2).bind fun sv=>some (.v (.tmp sv) δ2)
end
inductive XO where
 |v (sv:SV)|x (e:Exn)
noncomputable def spX(K:PySem.W.Frag)(n:Nat)(g:List D→Option XO):Sp:=fun vs H Q E=>∃F ds o,Same F H∧Reps K F ds vs∧ds.length=n∧g ds=some o∧match o with
 | .v sv=>∀v H' F' ns,Same H H'→Same F F'→Same F' H'→(∀(b:Addr) (o:HO),F' b=some o→F b=some o∨H b=none)→Shape K F' sv v ns→(adr ns).Nodup→(∀p∈ns,F' p.1=none∧H p.1=none∧H' p.1=some p.2)→Q v H'
 | .x e=>∀cls od H' F',Same H H'→Same F F'→Same F' H'→(∀(b:Addr) (o:HO),F' b=some o→F b=some o∨H b=none)→Zi8 K F' e cls od→E cls od H'
@[simp] noncomputable def outX(f:FS)(n:Nat)(ds:List D):Option XO:=match f (Zgz n ds)with
 |some (.rt sv)=>some (.v sv)
 |some (.nx _)=>some (.v (.fz .non))
 |some (.ex e _)=>some (.x e)
 |_=>none
@[simp] noncomputable def valG(h:List D→Option XO)(ds:List D):Option SV:=match h ds with
 |some (.v sv)=>some sv
 |_=>none
noncomputable abbrev entX(H F:Hp)(E:XK):Ent K:=⟨H,F,fun cls od _ H'=>E cls od H'⟩
section
variable{Z:Ent K}{H:Hp}{σ:St}{Q:VK}{E:Ends}
@[simp] noncomputable def Z2c(n:Nat)(g:List D→Option XO)(fa:FAX):FX:=fun δ=>(fa δ).bind fun
 | .x e δ1=>some (.x e δ1)
 | .v rvs δ1=>(DL.frzAll rvs δ1).bind fun q=>if q.1.length=n then(g q.1).bind (fun
  | .v sv=>some (.v (.tmp sv) (if sv.scal then δ1 else q.2))
  | .x e=>some (.x e q.2))else none
@[simp] noncomputable def Z0x(g:List D→Option SV)(ds:List D):Option XO:=(g ds).bind fun sv=>some (.v sv)
@[simp] noncomputable def setX(i:Nat)(fx:FX):FS:=fun δ=>(fx δ).bind fun
 | .v rv δ1=>(stow i rv δ1).bind fun δ'=>some (.nx δ')
 | .x e δ1=>some (.ex e δ1)
@[simp] noncomputable def retX(fx:FX):FS:=fun δ=>(fx δ).bind fun
 | .v rv δ1=>(outF rv δ1).bind fun sv=>some (.rt sv)
 | .x e δ1=>some (.ex e δ1)
@[simp] noncomputable def Z2d(fx:FX):FS:=fun δ=>(fx δ).bind fun
 | .v _ δ1=>some (.nx δ1)
 | .x e δ1=>some (.ex e δ1)
@[simp] noncomputable def appX(i:Nat)(fx:FX):FS:=fun δ=>match fx δ with
 |some (.x e δ1)=>(match δ[i]? with
  |some (some (.ol _))=>some (.ex e δ1)
  |_=>none)
 |_=>appF i fx.val δ
@[simp] noncomputable def extX(i:Nat)(fx:FX):FS:=fun δ=>match fx δ with
 |some (.x e δ1)=>(match δ[i]? with
  |some (some (.ol _))=>some (.ex e δ1)
  |_=>none)
 |_=>extF i fx.val δ
@[simp] noncomputable def Z0y(c:Str):FS:=fun δ=>some (.ex ⟨c,[],[]⟩ δ)
set_option genInjectivity false in
structure HX where
 x:Str
 np:Pos
 nm:Option (Str×Nat)
 b0:Stmt
 suite:List Stmt
 pos:Pos
 B:Addr
 yes:List Str
 no:List Str
 f:FS
set_option genInjectivity false in
structure HX.Sub(K:PySem.W.Frag)(h:HX):Prop where
 yes:∀c∈h.yes,∀C,Zh7 K c C→PySem.W.mroIn K C (.ref h.B)=some true
 no:∀c∈h.no,∀C,Zh7 K c C→PySem.W.mroIn K C (.ref h.B)=some false
noncomputable def HX.hd(Z:Ent K)(h:HX):Hd:=⟨h.x,h.np,h.nm,h.b0,h.suite,h.pos,h.B,Zy Z h.f⟩
set_option genInjectivity false in
structure HF where
 i:Option Nat
 yes:List Str
 no:List Str
 f:FS
@[simp] noncomputable def HX.hf(h:HX):HF:=⟨h.nm.map (·.2),h.yes,h.no,h.f⟩
@[simp] noncomputable def Zv6(c:Str):List HF→Option HF
 | []=>none
 |h::r=>if c∈h.yes then some h else if c∈h.no then Zv6 c r else none
@[simp] noncomputable def Fl.but(i:Nat):Fl→Fl
 | .nx δ=>.nx (δ.set i none)
 | .bk δ=>.bk (δ.set i none)
 | .ct δ=>.ct (δ.set i none)
 | .ex e δ=>.ex e (δ.set i none)
 | .rt sv=>.rt sv
@[simp] noncomputable def Fl.isEx:Fl→Bool
 | .ex _ _=>true
 |_=>false
@[simp] noncomputable def HF.run(h:HF)(x:Exn)(δ:DSt):Option Fl:=match h.i with
 |none=>h.f δ
 |some i=>if i<δ.length then(h.f (δ.set i (some (.fz (.exc x.c x.ks x.vs))))).bind fun fl=>if fl.isEx=true then none else some (fl.but i)else none
@[simp] noncomputable def tryF(fb:FS)(hs:List HF):FS:=fun δ=>(fb δ).bind fun
 | .ex x δ1=>(Zv6 x.c hs).bind fun h=>h.run x δ1
 |fl=>some fl
noncomputable abbrev Ent.wish(Z:Ent K)(EX:EXT):Ent K:=⟨Z.h,Z.f,EX⟩
end
end DL
namespace DL
open PySem PySem.Spec PyProof.Rows L2
section
variable{X:Cx}{Z:Ent X.K}{a b c:Expr}{fa fb:FE}{fx fy:FX}{pos:Pos}
@[simp] noncomputable def isxD(yes no:List Str):D→Option SV
 | .exc c _ _=>if c∈yes then some (.fz (.bl true))else if c∈no then some (.fz (.bl false))else none
 |_=>none
noncomputable def Kn(K:PySem.W.Frag)(r:Addr→Bool→Prop)(yes no:List Str):Prop:=(∀c∈yes,∀C,Zh7 K c C→ExcKit K C∧r C true)∧∀c∈no,∀C,Zh7 K c C→ExcKit K C∧r C false
noncomputable def Z0z(Bs:List Addr):TA:=fun _ H R=>R (Bs.map V.ref) H
end
end DL
namespace DL
open PySem PySem.Spec PyProof.Rows L2
section
variable{X:Cx}{pins:List (Addr×Obj)}{σ:L2.St}{H:Hp}{s:Shared}
noncomputable def Z00(trs:List (TE×TE)):TE:=fun σ H Q=>Zi5 trs σ H fun ps H2=>∃kvs:List (Key×V),ps=kvs.map (fun kv=>(kV kv.1,kv.2))∧kvs.length≤15∧∀p ep,H2 p=none→Q (.ref p) (upd H2 p (.dK (Zpu [] kvs) ep))
end
section
variable{K:PySem.W.Frag}{Z:Ent K}{σ:L2.St}{H:Hp}{Q:VK}
noncomputable def tPD(Z:Ent K)(l:List (Str×FE)):List (TE×TE):=l.map fun p=>(tC (.str p.1),Zb Z p.2)
@[simp] noncomputable def Zqa:List (Str×FE)→FD
 | []=>Z0
 |p::r=>Zq p.2 (Zqa r)
@[simp] noncomputable def Z01(l:List (Str×FE)):FE:=fun δ=>(Zqa l δ).bind fun p=>if p.1.length=l.length then some (.tmp (.oK (l.map fun q=>.inr q.1) p.1),p.2)else none
@[simp] noncomputable def minD:List D→Option SV
 | [.int i,.int j]=>some (.fz (.int (if j<i then j else i)))
 |_=>none
end
section
variable{X:Cx}{Z:Ent X.K}{a b c:Expr}{fa fb fc:FE}{pos:Pos}
end
end DL
namespace DL
open PySem PySem.Spec PyProof.Rows L2
@[simp] noncomputable def Z02(ss:List Str)(fd:FD):FD:=fun δ=>(fd δ).bind fun p=>some (ss.map D.str++p.1,p.2)
section
variable{X:Cx}{Z:Ent X.K}{pos:Pos}
noncomputable abbrev cst(x:Str×Nat×Pos):Expr:=.Constant (.str x.1) x.2.1 x.2.2
end
end DL
namespace DL
open PySem PySem.Spec PyProof.Rows L2
section
variable{K:PySem.W.Frag}
inductive RC where
 |v (δ:DSt)|x (e:Exn)
noncomputable def xX(K:PySem.W.Frag)(f:FX)(EX:EXT):TE:=fun σ H Q=>∃Z:Ent K,Z.x=EX∧Zzb Z f σ H Q
@[simp] noncomputable def Zmr(src:List BSrc)(k:Nat)(g:FG)(tt:FT)(te:FX):List D→DSt→Option RC
 | [],δ=>some (.v δ)
 |d::ds,δ=>(g.run d δ).bind fun δ1=>(tt δ1).bind fun p=>if p.1=true then(te p.2).bind (fun
  | .x e _=>some (.x e)
  | .v rv δ2=>(frz rv δ2).bind fun r=>match r.2[k]? with
   |some (some (.ol zs))=>if zs.length<PySem.sizeLine then Zmr src k g tt te ds (Zdd src (r.2.set k (some (.ol (zs++[r.1])))))else none
   |_=>none)
  else Zmr src k g tt te ds (Zdd src p.2)
@[simp] noncomputable def Z2e(src:List BSrc)(k:Nat)(fi:FD)(g:FG)(tt:FT)(te:FX):FX:=fun δ=>(fi δ).bind fun p=>(frzAll (caps src) p.2).bind fun c=>(Zmr src k g tt te p.1 (bD src c.2)).bind fun
 | .x e=>some (.x e c.2)
 | .v δb=>match δb[k]? with
  |some (some (.ol ys))=>some (.v (.tmp (.ol ys)) c.2)
  |_=>none
end
section
variable{X:Cx}{Z:Ent X.K}{pos:Pos}
end
end DL
namespace L2
open PySem PySem.Spec PyProof.Rows
noncomputable def Zv7{α:Type}(xs:List α)(lo hi st:Option Int):List α:=
 (sliceRange (sliceBounds lo hi st xs.length).1 (sliceBounds lo hi st xs.length).2.1 (sliceBounds lo hi st xs.length).2.2).filterMap (xs[·]?)
section
variable{X:Cx}{e st:Expr}{te:TE}{lo hi:Option Expr}{tl th ts:TO}{pos p2:Pos}
noncomputable def SlR3(X:Cx)(r:V→Option Int→Option Int→Option Int→Hp→VK→Prop):Prop:=
 ∀(pins:List (Addr×Obj)) (s:Shared) (σ:St) (H:Hp) (x:V) (v vl vu vs:Value) (lo hi st:Option Int) (sl:Addr) (Q:VK),Inv X pins σ H s→RelV x v→s.heap.IsSliceOf sl vl vu vs→IsPart vl lo→IsPart vu hi→IsPart vs st→r x lo hi st H Q→
  ∃T id,typeLookup (.type T) "__getitem__"=pure (some (.builtin id))∧s.TypeIs v T∧wpAny (model X.prog X.w) X.A (getItem v (.ref sl)) (EP X pins σ Q) X.xe s
noncomputable def tSl3(r:V→Option Int→Option Int→Option Int→Hp→VK→Prop)(te:TE)(tl th ts:TO):TE:=fun σ H Q=>te σ H fun x H1=>tl σ H1 fun l H2=>th σ H2 fun u H3=>ts σ H3 fun w H4=>r x l u w H4 Q
noncomputable def rSl3(K:PySem.W.Frag):V→Option Int→Option Int→Option Int→Hp→VK→Prop:=fun x lo hi st H Q=>∃a xs,x= .ref a∧SqL K H a xs∧st≠some 0∧∀p,H p=none→Q (.ref p) (upd H p (.lst (Zv7 xs lo hi st)))
end
end L2
namespace DL
open PySem PySem.Spec PyProof.Rows L2
@[simp] noncomputable def slF3(g:D→Option Int→Option Int→Option Int→Option SV)(fe:FE)(fl fh fs:FO):FE:=fun δ=>(fe δ).bind fun p=>(fl p.2).bind fun l=>(fh l.2).bind fun h=>(fs h.2).bind fun w=>(rdv p.1 w.2).bind fun d=>(g d l.1 h.1 w.1).bind fun sv=>some (.tmp sv,w.2)
section
variable{K:PySem.W.Frag}{Z:Ent K}{H:Hp}{σ:L2.St}{Q:VK}
noncomputable def Z03(Z:Ent K)(r:V→Option Int→Option Int→Option Int→Hp→VK→Prop)(g:D→Option Int→Option Int→Option Int→Option SV):Prop:=
 ∀(F H:Hp) (σ:L2.St) (δ:DSt) (own:Nat→Zl) (x:V) (d:D) (lo hi st:Option Int) (sv:SV) (Q:VK),SR Z F H σ δ own→RepN K F H d x→g d lo hi st=some sv→Fin Z F H σ δ own sv Q→r x lo hi st H Q
@[simp] noncomputable def slD3:D→Option Int→Option Int→Option Int→Option SV
 | .lst xs,lo,hi,st=>if st≠some 0 then some (.ol (Zv7 xs lo hi st))else none
 |_,_,_,_=>none
end
end DL
namespace DL
section
variable{α:Type}{P:List α→Prop}
@[elab_as_elim] theorem of0(h:P [])(us:List α)(hl:us.length=0):P us:=by
 have:us=[]:=List.eq_nil_of_length_eq_zero hl
 rw[this];exact h
@[elab_as_elim] theorem of1(h:∀a,P [a])(us:List α)(hl:us.length=1):P us:=by
 obtain⟨a,e⟩:=List.length_eq_one_iff.mp hl
 rw[e];exact h a
theorem ofC{n:Nat}(h:∀a (us:List α),us.length=n→P (a::us))(us:List α)(hl:us.length=n+1):P us:=by
 cases us with
 |nil=>exact absurd hl (by simp)
 |cons a r=>exact h a r (by simpa using hl)
@[elab_as_elim] theorem of2(h:∀a b,P [a,b])(us:List α)(hl:us.length=2):P us:=ofC (fun a=>of1 (P:=fun us=>P (a::us)) (h a)) us hl
@[elab_as_elim] theorem of3(h:∀a b c,P [a,b,c])(us:List α)(hl:us.length=3):P us:=ofC (fun a=>of2 (P:=fun us=>P (a::us)) (h a)) us hl
@[elab_as_elim] theorem of4(h:∀a b c d,P [a,b,c,d])(us:List α)(hl:us.length=4):P us:=ofC (fun a=>of3 (P:=fun us=>P (a::us)) (h a)) us hl
@[elab_as_elim] theorem of5(h:∀a b c d e,P [a,b,c,d,e])(us:List α)(hl:us.length=5):P us:=ofC (fun a=>of4 (P:=fun us=>P (a::us)) (h a)) us hl
@[elab_as_elim] theorem of6(h:∀a b c d e f,P [a,b,c,d,e,f])(us:List α)(hl:us.length=6):P us:=ofC (fun a=>of5 (P:=fun us=>P (a::us)) (h a)) us hl
end
end DL
namespace L2
open PySem PySem.Spec PyProof.Rows
section
variable{prog:Program}{w:World}{A:Around}{E:Value→Shared→Prop}{s:Shared}{q d:Addr}{i n ep:Nat}{od:Obj}{es:Array DictEntry}
end
noncomputable def Itk(a:Addr)(n ep:Nat):It:=
 ⟨fun i H=>∃kvs,H a=some (.dK kvs ep)∧kvs.length=n∧i<n,fun i H x H'=>H'=H∧∃kvs kv,H a=some (.dK kvs ep)∧kvs[i]? =some kv∧x=kV kv.1,fun i H=>∃kvs,H a=some (.dK kvs ep)∧kvs.length=n∧n≤i⟩
noncomputable def Itd(a:Addr)(n ep:Nat):It:=
 ⟨fun i H=>∃kvs bs,H a=some (.dT kvs ep bs)∧kvs.length=n∧i<n,fun i H x H'=>H'=H∧∃kvs bs b,H a=some (.dT kvs ep bs)∧bs[i]? =some b∧x= .ref b,fun i H=>∃kvs bs,H a=some (.dT kvs ep bs)∧kvs.length=n∧n≤i⟩
section
variable{X:Cx}{tg:Expr}
noncomputable def iDic(tl:TE):TI:=fun σ H R=>tl σ H fun x H1=>(∃a kvs ep,x= .ref a∧H1 a=some (.dK kvs ep)∧R (Itk a kvs.length ep) H1)∨(∃a kvs ep bs,x= .ref a∧H1 a=some (.dT kvs ep bs)∧R (Itd a kvs.length ep) H1)
end
end L2
namespace DL
open PySem PySem.Spec PyProof.Rows L2
variable{K:PySem.W.Frag}
@[simp] noncomputable def keyD:Key→D
 | .inl i=>.int i
 | .inr x=>.str x
section
variable{Z:Ent K}{H:Hp}{σ:L2.St}
@[simp] noncomputable def dicI(fe:FE):FD:=fun δ=>(fe δ).bind fun p=>(frz p.1 p.2).bind fun q=>match q.1 with
 | .dK ks _=>some (ks.map keyD,q.2)
 | .dT ks _=>some (ks.map fun k=>D.tup (k.map keyD),q.2)
 |_=>none
end
end DL
namespace DL
open PySem PySem.Spec PyProof.Rows L2
variable{K:PySem.W.Frag}
@[simp] noncomputable def inW(d1 d2:D):Option SV:=match d2.seq? with
 |some xs=>if d1.isFlat=true∧xs.all D.isFlat=true then some (.fz (.bl (inFl d1 xs)))else none
 |none=>inD d1 d2
@[simp] noncomputable def Z04(d1 d2:D):Option SV:=match d2.seq? with
 |some xs=>if d1.isFlat=true∧xs.all D.isFlat=true then some (.fz (.bl (!inFl d1 xs)))else none
 |none=>Zjf d1 d2
section
variable{Z:Ent K}
end
section
variable{X:Cx}{Z:Ent X.K}{a b:Expr}{fa fb:FE}{pos:Pos}
end
end DL
namespace L2
open PySem PySem.Spec PyProof.Rows
section
variable{prog:Program}{w:World}{A:Around}{E:Value→Shared→Prop}{s:Shared}{a b:Addr}{xs ys:List (List Key×Addr×Value)}
end
section
variable{X:Cx}
noncomputable def rEqT:R2:=fun x y H Q=>∃a b kvs,x= .ref a∧y= .ref b∧HTt H a kvs∧HTt H b kvs∧(∀p∈kvs,Z5 p.2=true)∧Q (.bl true) H
end
end L2
namespace DL
open PySem PySem.Spec PyProof.Rows L2
variable{K:PySem.W.Frag}
noncomputable def Zzd(ks ks':List (List Key))(vs vs':List D):Bool:=@decide (ks=ks'∧vs=vs'∧vs.all D.isFlat=true) (Classical.propDecidable _)
@[simp] noncomputable def eqTD(d1 d2:D):Option SV:=match d1,d2 with
 | .dT ks vs,.dT ks' vs'=>if Zzd ks ks' vs vs'=true then some (.fz (.bl true))else none
 |_,_=>none
section
variable{Z:Ent K}
end
section
variable{X:Cx}{Z:Ent X.K}{a b:Expr}{fa fb:FE}{pos:Pos}
end
end DL
namespace DL
open PySem PySem.Spec PyProof.Rows L2
end DL
namespace DL
open PySem PySem.Spec PyProof.Rows L2
variable{K:PySem.W.Frag}
@[simp] noncomputable def Zms(src:List BSrc)(k:Nat)(g:FG)(tt:FT)(te:FE):List D→DSt→Option DSt
 | [],δ=>some δ
 |d::ds,δ=>(g.run d δ).bind fun δ1=>(tt δ1).bind fun p=>if p.1=true then(te p.2).bind fun q=>match q.1,q.2[k]? with
   | .tmp (.ol xs),some (some (.oL none zs))=>if zs.length<PySem.sizeLine then Zms src k g tt te ds (Zdd src (q.2.set k (some (.oL none (zs++[xs])))))else none
   |_,_=>none
  else Zms src k g tt te ds (Zdd src p.2)
@[simp] noncomputable def Z05(src:List BSrc)(k:Nat)(fi:FD)(g:FG)(tt:FT)(te:FE):FE:=fun δ=>(fi δ).bind fun p=>(frzAll (caps src) p.2).bind fun c=>(Zms src k g tt te p.1 ((bD src c.2).set k (some (.oL none [])))).bind fun δb=>match δb[k]? with
 |some (some (.oL none ys))=>some (.tmp (.oL none ys),c.2)
 |_=>none
section
variable{Z:Ent K}{H:Hp}{σ:L2.St}{Q:VK}{E:Ends}
noncomputable def Zv8(i p q:Nat):FE:=fun δ=>match δ[i]?,δ[p]?,δ[q]? with
 |some (some (.oL none xss)),some (some (.fz (.int n))),some (some (.fz (.lst xs)))=>if 0≤n∧n.toNat≤xss.length∧xss.length+1≤PySem.sizeLine then some (.tmp (.oL none (xss.take n.toNat++[xs]++xss.drop n.toNat)),δ.set i none)else none
 |_,_,_=>none
@[simp] theorem Zw9{i p q:Nat}{δ:DSt}{xss:List (List D)}{n:Nat}{xs:List D}(hi:δ[i]? =some (some (.oL none xss)))(hp:δ[p]? =some (some (.fz (.int (n:Nat)))))(hq:δ[q]? =some (some (.fz (.lst xs))))(hn:n≤xss.length)(hz:xss.length+1≤PySem.sizeLine):
  Zv8 i p q δ=some (.tmp (.oL none (xss.take n++[xs]++xss.drop n)),δ.set i none):=by
 unfold Zv8
 rw[hi,hp,hq]
 dsimp only
 rw[if_pos ⟨by omega,by omega,hz⟩,Int.toNat_natCast]
noncomputable abbrev rLst(K:PySem.W.Frag):List V→Hp→VK→Prop:=fun xs H Q=>∃p ys,xs=[V.ref p]∧(SqL K H p ys∨SqT K H p ys)∧∀l,H l=none→Q (.ref l) (upd H l (.lst ys))
@[simp] noncomputable def apT(c:Str)(n:Nat)(xss:List (List D)):List (List D):=(xss.take n).map (· ++[.str c])++xss.drop n
noncomputable def Zmt(i j:Nat)(c:Str):FS:=fun δ=>match δ[i]? with
 |some (some (.oL none xss))=>if i≠j∧j<δ.length∧(∀xs∈xss,xs.length<PySem.sizeLine)then some (.nx ((δ.set j none).set i (some (.oL none (xss.map (· ++[.str c]))))))else none
 |_=>none
@[simp] theorem Zti{i j:Nat}{c:Str}{δ:DSt}{xss:List (List D)}(hi:δ[i]? =some (some (.oL none xss)))(hij:i≠j)(hj:j<δ.length)(hz:∀xs∈xss,xs.length<PySem.sizeLine):Zmt i j c δ=some (.nx ((δ.set j none).set i (some (.oL none (xss.map (· ++[.str c])))))):=by
 unfold Zmt
 rw[hi]
 dsimp only
 rw[if_pos ⟨hij,hj,hz⟩]
noncomputable def Zmu(i:Nat):FS:=fun δ=>match δ[i]? with
 |some (some (.oL none _))=>some (.nx (δ.set i (some (.ol []))))
 |_=>none
@[simp] theorem Ztj{i:Nat}{δ:DSt}{xss:List (List D)}(hi:δ[i]? =some (some (.oL none xss))):Zmu i δ=some (.nx (δ.set i (some (.ol [])))):=by unfold Zmu;rw[hi]
end
end DL
namespace DL
open PySem PySem.Spec PyProof.Rows L2
section
variable{X:Cx}{Z:Ent X.K}{a b c:Expr}{fa fb fc:FE}{pos:Pos}
end
end DL
namespace DL
open PySem PySem.Spec PyProof.Rows L2
variable{K:PySem.W.Frag}
noncomputable def Zze(K:PySem.W.Frag)(C:Addr)(f:Str):Sp:=fun vs H Q _=>∃e p ys,vs=[.ref e,.ref p]∧H e=some (.ext (Zdo e C none))∧(SqL K H p ys∨SqT K H p ys)∧
 ∀l,H l=none→∀dx,upd H l (.lst ys) dx=none→Q .non (upd (upd (upd H l (.lst ys)) dx (.xd [(f,.ref l)])) e (.ext (Zdo e C (some dx))))
noncomputable def Zzf(C:Addr)(f:Str):Sp:=fun vs H Q _=>∃e v,vs=[.ref e,v]∧H e=some (.ext (Zdo e C none))∧
 ∀dx,H dx=none→Q .non (upd (upd H dx (.xd [(f,v)])) e (.ext (Zdo e C (some dx))))
section
variable{Z:Ent K}{H:Hp}{σ:L2.St}{E:Ends}{Q:VK}
@[simp] noncomputable def Z06(c f:Str)(fe:FE):FS:=fun δ=>(fe δ).bind fun p=>(frz p.1 p.2).bind fun q=>match q.1 with
 | .lst ds=>some (.ex ⟨c,[f],[.lst ds]⟩ q.2)
 |_=>none
@[simp] noncomputable def Z07(c f:Str)(fe:FE):FS:=fun δ=>(fe δ).bind fun p=>(frz p.1 p.2).bind fun q=>some (.ex ⟨c,[f],[q.1]⟩ q.2)
@[simp] noncomputable def Z2f(cs:List Str)(f:Str):D→Option SV
 | .exc c ks vs=>if c∈cs then((ks.zip vs).lookup f).bind fun d=>some (.fz d)else none
 |_=>none
end
section
variable{X:Cx}{Z:Ent X.K}{a b c:Expr}{fa fb fc:FE}{pos:Pos}
end
end DL
namespace DL
open PySem PySem.Spec PyProof.Rows L2
variable{K:PySem.W.Frag}
noncomputable abbrev Zqb(H:Hp)(bs:List Addr)(xss:List (List Str)):Prop:=Paired (fun(b:Addr) (xs:List Str)=>H b=some (.tup (xs.map V.str))) bs xss
open Classical in
noncomputable def eqT(H:Hp)(ss:List Str):Value→Bool:=fun w=>decide (∃b,w= .ref b∧H b=some (.tup (ss.map V.str)))
section
variable{X:Cx}{pins:List (Addr×Obj)}{σ:L2.St}{H:Hp}{s:Shared}
noncomputable def rInP(K:PySem.W.Frag)(neg:Bool):R2:=fun x y H Q=>∃b ss a bs xss,x= .ref b∧H b=some (.tup (ss.map V.str))∧y= .ref a∧SqL K H a (bs.map V.ref)∧Zqb H bs xss∧Q (.bl (if neg then !(xss.any fun xs=>decide (xs=ss))else xss.any fun xs=>decide (xs=ss))) H
noncomputable def Zzg(K:PySem.W.Frag):V→List V→Hp→VK→Prop:=fun x xs H Q=>∃b ss a bs xss j,xs=[.ref b]∧H b=some (.tup (ss.map V.str))∧x= .ref a∧SqL K H a (bs.map V.ref)∧Zqb H bs xss∧(xss.findIdx? fun xs=>decide (xs=ss))=some j∧Q (.int (j:Nat)) H
end
@[simp] noncomputable def tl?:List D→Option (List (List Str))
 | []=>some []
 | .tup ds::r=>(strs? ds).bind fun x=>(tl? r).bind fun t=>some (x::t)
 |_=>none
@[simp] noncomputable def inP:D→D→Option SV
 | .tup a,.lst xs=>(strs? a).bind fun ss=>(tl? xs).bind fun xss=>some (.fz (.bl (xss.any fun x=>decide (x=ss))))
 |_,_=>none
@[simp] noncomputable def Z08:D→D→Option SV
 | .tup a,.lst xs=>(strs? a).bind fun ss=>(tl? xs).bind fun xss=>some (.fz (.bl (!(xss.any fun x=>decide (x=ss)))))
 |_,_=>none
@[simp] noncomputable def Z09:List D→Option SV
 | [.lst xs,.tup a]=>(strs? a).bind fun ss=>(tl? xs).bind fun xss=>(xss.findIdx? fun x=>decide (x=ss)).bind fun j=>some (.fz (.int (j:Nat)))
 |_=>none
section
variable{Z:Ent K}
end
section
variable{X:Cx}{Z:Ent X.K}{a b c:Expr}{fa fb fc:FE}{pos:Pos}
end
end DL
namespace DL
open PySem PySem.Spec PyProof.Rows L2
variable{K:PySem.W.Frag}
section
variable{Z:Ent K}{H:Hp}{σ:L2.St}{Q:VK}
@[simp] noncomputable def Z2g(k0:Str)(f0:FE)(j:Nat)(f1:FE):FE:=fun δ=>match δ[j]? with
 |some (some (.fz (.str x)))=>(Zq f0 (Zq f1 Z0) δ).bind fun p=>match p.1 with
  | [v0,v1]=>if k0=x then none else some (.tmp (.oK [.inr k0,.inr x] [v0,v1]),p.2)
  |_=>none
 |_=>none
end
section
variable{X:Cx}{Z:Ent X.K}{a b c:Expr}{fa fb fc:FE}{pos:Pos}
end
end DL
namespace L2
open PySem PySem.Spec PyProof.Rows
section
variable{X:Cx}
noncomputable def Zzh(K:PySem.W.Frag):V→List V→Hp→VK→Prop:=fun x xs H Q=>∃p ys y,x= .ref p∧xs=[y]∧SqL K H p ys∧Z5 y=true∧ys.all Z5=true∧Q (.int ((ys.countP fun z=>eqV z y):Nat)) H
noncomputable def Z1a:V→List V→Hp→VK→Prop:=fun x xs H Q=>∃a b i,x= .str a∧xs=[.str b,.int i]∧Q (.int (Txt.find3 a b i)) H
end
end L2
namespace DL
open PySem PySem.Spec PyProof.Rows L2
variable{K:PySem.W.Frag}
section
variable{Z:Ent K}{H:Hp}{σ:L2.St}{Q:VK}{E:Ends}
@[simp] noncomputable def Z1b:List D→Option SV
 | [.lst xs,x]=>if x.isFlat=true∧xs.all D.isFlat=true then some (.fz (.int ((xs.countP fun y=>eqFl y x):Nat)))else none
 |_=>none
@[simp] noncomputable def Z1c:List D→Option SV
 | [.str a,.str b,.int i]=>some (.fz (.int (Txt.find3 a b i)))
 |_=>none
@[simp] noncomputable def augF(i:Nat)(j:Int):FS:=fun δ=>match δ[i]? with
 |some (some (.fz (.int x)))=>some (.nx (δ.set i (some (.fz (.int (x+j))))))
 |_=>none
@[simp] noncomputable def Z2h:FE:=fun δ=>some (.tmp (.oL none [[]]),δ)
noncomputable def Zv9(i:Nat):FS:=fun δ=>match δ[i]? with
 |some (some (.oL p xss))=>if xss.length<PySem.sizeLine then some (.nx (δ.set i (some (.oL p (xss++[[]])))))else none
 |_=>none
@[simp] theorem Zxa{i:Nat}{δ:DSt}{p:Option Addr}{xss:List (List D)}(hi:δ[i]? =some (some (.oL p xss)))(hz:xss.length<PySem.sizeLine):Zv9 i δ=some (.nx (δ.set i (some (.oL p (xss++[[]]))))):=by
 unfold Zv9;rw[hi];exact if_pos hz
noncomputable abbrev tTop(K:PySem.W.Frag)(i:Nat):TE:=tOp (rIxL K) (tVar i) (tC (.int (-1)))
noncomputable def Zxb(i:Nat)(fe:FE):FS:=fun δ=>match δ[i]? with
 |some (some (.oL _ xss0))=>if xss0.length=0 then none else(fe δ).bind fun q=>(frz q.1 q.2).bind fun r=>match r.2[i]? with
  |some (some (.oL p xss))=>(xss[xss.length- 1]?).bind fun xs=>if xs.length<PySem.sizeLine then some (.nx (r.2.set i (some (.oL p (xss.set (xss.length- 1) (xs++[r.1]))))))else none
  |_=>none
 |_=>none
end
end DL
namespace DL
open PySem PySem.Spec PyProof.Rows L2
variable{K:PySem.W.Frag}
section
variable{Z:Ent K}{H:Hp}{σ:L2.St}{Q:VK}{E:Ends}
noncomputable def Zwa(i:Nat):FE:=fun δ=>match δ[i]? with
 |some (some (.oL _ xss))=>some (.tmp (.fz (.int (xss.length:Nat))),δ)
 |_=>none
@[simp] theorem Zxc{i:Nat}{δ:DSt}{p:Option Addr}{xss:List (List D)}(hi:δ[i]? =some (some (.oL p xss))):Zwa i δ=some (.tmp (.fz (.int (xss.length:Nat))),δ):=by unfold Zwa;rw[hi]
noncomputable abbrev Z2i(K:PySem.W.Frag):List V→Hp→VK→Prop:=fun xs H Q=>∃p ys,xs=[V.ref p]∧(SqL K H p ys∨SqT K H p ys)∧Q (.int ys.length) H
noncomputable def Zzi(i:Nat):FE:=fun δ=>match δ[i]? with
 |some (some (.oL _ xss))=>(xss[xss.length- 1]?).bind fun xs=>some (.tmp (.fz (.int (xs.length:Nat))),δ)
 |_=>none
noncomputable def Zzj(i:Nat):FE:=fun δ=>match δ[i]? with
 |some (some (.oL _ xss))=>(xss[xss.length- 1]?).bind fun xs=>(xs[xs.length- 1]?).bind fun d=>some (.tmp (.fz d),δ)
 |_=>none
noncomputable def Zjp(i:Nat):FE:=fun δ=>match δ[i]? with
 |some (some (.oL _ (xs::_)))=>some (.tmp (.fz (.tup xs)),δ)
 |_=>none
@[simp] theorem Zsh{i:Nat}{δ:DSt}{p:Option Addr}{xss:List (List D)}{xs:List D}(hi:δ[i]? =some (some (.oL p (xs::xss)))):Zjp i δ=some (.tmp (.fz (.tup xs)),δ):=by unfold Zjp;rw[hi]
noncomputable abbrev Z2j(K:PySem.W.Frag):List V→Hp→VK→Prop:=fun xs H Q=>∃p ys,xs=[V.ref p]∧((SqL K H p ys∧∀l,H l=none→Q (.ref l) (upd H l (.tup ys)))∨(SqT K H p ys∧Q (.ref p) H))
noncomputable def Z2k(j i:Nat):FS:=fun δ=>match δ[i]? with
 |some (some (.oL p xss))=>(xss[xss.length- 1]?).bind fun xs=>if i≠j∧j<δ.length then some (.nx ((δ.set i (some (.oL p xss.dropLast))).set j (some (.ol xs))))else none
 |_=>none
noncomputable def hole(H:Hp)(ns:Zl):Hp:=fun b=>if b∈adr ns then none else H b
noncomputable def spM(K:PySem.W.Frag)(g:Addr→List (List D)→Option (List (List D))):Sp:=fun vs H Q _=>∃F a xss ws ns yss,vs=[V.ref a]∧Same F H∧Kids K F xss ws ns∧(adr ((a,HO.lst ws)::ns)).Nodup∧(∀p∈(a,HO.lst ws)::ns,F p.1=none∧H p.1=some p.2)∧g a xss=some yss∧
 ∀H' F' ws' ns',Same (hole H ((a,.lst ws)::ns)) H'→Same F F'→Same F' H'→(∀(b:Addr) (o:HO),F' b=some o→F b=some o∨hole H ((a,.lst ws)::ns) b=none)→Kids K F' yss ws' ns'→(adr ((a,HO.lst ws')::ns')).Nodup→
  (∀p∈(a,HO.lst ws')::ns',F' p.1=none∧hole H ((a,.lst ws)::ns) p.1=none∧H' p.1=some p.2)→Q .non H'
@[simp] noncomputable def Zqc(n:Nat)(a:Addr)(xss:List (List D)):DSt:=some (.oL (some a) xss)::List.replicate (n- 1) none
@[simp] noncomputable def Zwb(a:Addr)(o:Option (Option SV)):Option (List (List D)):=match o with
 |some (some (.oL (some b) yss))=>if b=a then some yss else none
 |_=>none
@[simp] noncomputable def outM(f:FS)(n:Nat)(a:Addr)(xss:List (List D)):Option (List (List D)):=match f (Zqc n a xss)with
 |some (.nx δ)=>Zwb a δ[0]?
 |_=>none
open Classical in
noncomputable def mutF(i:Nat)(g:Addr→List (List D)→Option (List (List D))):FS:=fun δ=>match δ[i]? with
 |some (some (.oL p xss))=>if h:∃o,∀a,g a xss=some o then some (.nx (δ.set i (some (.oL p h.choose))))else none
 |_=>none
end
end DL
namespace DL
open PySem PySem.Spec PyProof.Rows L2
section
variable{X:Cx}{Z:Ent X.K}{a b c:Expr}{fa fb fc:FE}{pos:Pos}
end
end DL
namespace L2
open PySem PySem.Spec PyProof.Rows
section
variable{X:Cx}
noncomputable abbrev Z2l:List V→Hp→VK→Prop:=fun xs H Q=>∃(x:Str) (n:Int),xs=[V.str x]∧PySem.intText? x=some n∧x.length≤640∧Q (.int n) H
end
end L2
namespace DL
open PySem PySem.Spec PyProof.Rows L2
variable{K:PySem.W.Frag}
noncomputable def Z2m:List D→Option SV
 | [.str x]=>if x.length≤640 then(PySem.intText? x).bind fun n=>some (.fz (.int n))else none
 |_=>none
section
variable{X:Cx}{Z:Ent X.K}{a:Expr}{fa:FE}{pos:Pos}
end
end DL
namespace L2
open PySem PySem.Spec PyProof.Rows
section
variable{X:Cx}
noncomputable def Z2n(K:PySem.W.Frag):V→List V→Hp→VK→Prop:=fun x vs H Q=>∃l b xs zs,x= .ref l∧vs=[.ref b]∧H l=some (.lst xs)∧SqT K H b zs∧xs.length+zs.length≤sizeLine∧Q .non (upd H l (.lst (xs++zs)))
noncomputable def Z1d:List V→Hp→VK→Prop:=fun xs H Q=>∃p kvs,xs=[.ref p]∧RdK H p kvs∧∀l,H l=none→Q (.ref l) (upd H l (.lst (kvs.map fun kv=>kV kv.1)))
end
end L2
namespace DL
open PySem PySem.Spec PyProof.Rows L2
variable{K:PySem.W.Frag}
noncomputable def Zzk:List D→Option SV
 | [.dK ks _]=>some (.ol (ks.map keyD))
 |_=>none
@[simp] theorem Zxd(ks:List Key)(vs:List D):Zzk [.dK ks vs]=some (.ol (ks.map keyD)):=rfl
section
variable{Z:Ent K}{H:Hp}{σ:L2.St}{Q:VK}{E:Ends}
@[simp] noncomputable def SV.tup?:RV→Option (List D)
 | .tmp (.fz (.tup ys))=>some ys
 |_=>none
@[simp] noncomputable def Z2o(i:Nat)(fe:FE):FS:=fun δ=>match δ[i]? with
 |some (some (.ol _))=>(fe δ).bind fun p=>(SV.tup? p.1).bind fun ys=>match p.2[i]? with
  |some (some (.ol xs))=>if xs.length+ys.length≤PySem.sizeLine then some (.nx (p.2.set i (some (.ol (xs++ys)))))else none
  |_=>none
 |_=>none
end
section
variable{X:Cx}{Z:Ent X.K}{a b c:Expr}{fa fb fc:FE}{pos:Pos}
end
end DL
namespace DL
open PySem PySem.Spec PyProof.Rows L2
section
variable{K:PySem.W.Frag}{Z:Ent K}{H:Hp}{σ:L2.St}{Q:VK}
@[simp] noncomputable def bmX(T:String)(g:List D→Option SV)(fo:FE)(fa:FAX):FX:=fun δ=>(fo δ).bind fun p=>(rdv p.1 p.2).bind fun d0=>if tyOk T d0=true then(fa p.2).bind fun
 | .x e δ2=>some (.x e δ2)
 | .v rvs δ2=>(Zco (p.1::rvs) δ2).bind fun ds=>(g ds).bind fun sv=>some (.v (.tmp sv) δ2)else none
end
section
variable{X:Cx}{Z:Ent X.K}{a b:Expr}{fa:FE}{fx:FX}
end
end DL
namespace DL
open PySem PySem.Spec PyProof.Rows L2
section
variable{K:PySem.W.Frag}{Z:Ent K}{H:Hp}{σ:L2.St}{Q:VK}{E:Ends}
inductive MR where
 |v (yss:List (List D))|x (e:Exn)
noncomputable def spMX(K:PySem.W.Frag)(g:Addr→List (List D)→Option MR):Sp:=fun vs H Q E=>∃F a xss ws ns r,vs=[V.ref a]∧Same F H∧Kids K F xss ws ns∧(adr ((a,HO.lst ws)::ns)).Nodup∧(∀p∈(a,HO.lst ws)::ns,F p.1=none∧H p.1=some p.2)∧g a xss=some r∧match r with
 | .v yss=>∀H' F' ws' ns',Same (hole H ((a,.lst ws)::ns)) H'→Same F F'→Same F' H'→(∀(b:Addr) (o:HO),F' b=some o→F b=some o∨hole H ((a,.lst ws)::ns) b=none)→Kids K F' yss ws' ns'→(adr ((a,HO.lst ws')::ns')).Nodup→
   (∀p∈(a,HO.lst ws')::ns',F' p.1=none∧hole H ((a,.lst ws)::ns) p.1=none∧H' p.1=some p.2)→Q .non H'
 | .x e=>∀cls od H' F',Same (hole H ((a,.lst ws)::ns)) H'→Same F F'→Same F' H'→(∀(b:Addr) (o:HO),F' b=some o→F b=some o∨hole H ((a,.lst ws)::ns) b=none)→Zi8 K F' e cls od→E cls od H'
@[simp] noncomputable def Z2p(f:FS)(n:Nat)(a:Addr)(xss:List (List D)):Option MR:=match f (Zqc n a xss)with
 |some (.nx δ)=>(Zwb a δ[0]?).map .v
 |some (.ex e _)=>some (.x e)
 |_=>none
open Classical in
noncomputable def Z2q(i:Nat)(g:Addr→List (List D)→Option MR):FS:=fun δ=>match δ[i]? with
 |some (some (.oL p xss))=>if h:∃o,∀a,g a xss=some o then(match h.choose with
  | .v yss=>some (.nx (δ.set i (some (.oL p yss))))
  | .x e=>some (.ex e (δ.set i none)))else none
 |_=>none
noncomputable def Zxe(i:Nat)(fx:FX):FS:=fun δ=>match δ[i]? with
 |some (some (.oL _ xss0))=>if xss0.length=0 then none else(fx δ).bind fun
  | .x e δ1=>some (.ex e δ1)
  | .v rv δ1=>(frz rv δ1).bind fun r=>match r.2[i]? with
   |some (some (.oL p xss))=>(xss[xss.length- 1]?).bind fun xs=>if xs.length<PySem.sizeLine then some (.nx (r.2.set i (some (.oL p (xss.set (xss.length- 1) (xs++[r.1]))))))else none
   |_=>none
 |_=>none
end
section
variable{X:Cx}{Z:Ent X.K}{a b c:Expr}{fa fb fc:FE}{fx:FX}{pos:Pos}
end
end DL
namespace L2
open PySem PySem.Spec PyProof.Rows
end L2
namespace L2
open PySem PySem.Spec PyProof.Rows
section
variable{X:Cx}
noncomputable def Z2r(K:PySem.W.Frag):R2:=fun x y H Q=>∃a k xs,x= .ref a∧y= .int k∧SqT K H a xs∧xs≠[]∧2≤k∧k≤1000∧xs.length≤1000∧∀p,H p=none→Q (.ref p) (upd H p (.tup (List.replicate k.toNat xs).flatten))
end
end L2
namespace DL
open PySem PySem.Spec PyProof.Rows L2
variable{K:PySem.W.Frag}
section
variable{Z:Ent K}
noncomputable def Z2s:D→D→Option SV
 | .tup xs,.int k=>if xs.isEmpty=false∧2≤k∧k≤1000∧xs.length≤1000 then some (.fz (.tup (List.replicate k.toNat xs).flatten))else none
 |_,_=>none
end
section
variable{X:Cx}{Z:Ent X.K}{a b:Expr}{fa fb:FE}{pos:Pos}
end
end DL
namespace L2
open PySem PySem.Spec PyProof.Rows
section
variable{X:Cx}
noncomputable def Zzl:V→List V→Hp→VK→Prop:=fun x xs H Q=>∃a b k,x= .str a∧xs=[.str b,.int k]∧(b.length==0)=false∧0≤k∧k≤1000∧a.length≤sizeLine∧(Txt.splitMax a b k).length≤sizeLine∧∀p,H p=none→Q (.ref p) (upd H p (.lst ((Txt.splitMax a b k).map V.str)))
end
end L2
namespace DL
open PySem PySem.Spec PyProof.Rows L2
variable{K:PySem.W.Frag}
section
variable{Z:Ent K}
@[simp] noncomputable def Zzm:List D→Option SV
 | [.str a,.str b,.int k]=>if(b.length==0)=false∧0≤k∧k≤1000∧a.length≤PySem.sizeLine∧(Txt.splitMax a b k).length≤PySem.sizeLine then some (.ol ((Txt.splitMax a b k).map D.str))else none
 |_=>none
end
section
variable{X:Cx}{Z:Ent X.K}{a b c:Expr}{fa fb fc:FE}
end
end DL
namespace L2
open PySem PySem.Spec PyProof.Rows
section
variable{M:Model}{A:Around}{E:Value→Shared→Prop}{s:Shared}{env:Env}
end
section
variable{prog:Program}{w:World}{A:Around}{E:Value→Shared→Prop}{s:Shared}
end
section
variable{X:Cx}
noncomputable def Ite1(K:PySem.W.Frag)(a:Addr):It:=
 ⟨fun i H=>∃xs x,SqL K H a xs∧xs[i]? =some x,fun i H x H'=>∃p v,x= .ref p∧H p=none∧H'=upd H p (.tup [.int ((i+1:Nat):Int),v])∧∀xs,SqL K H a xs→xs[i]? =some v,fun i H=>∃xs,SqL K H a xs∧xs.length≤i⟩
noncomputable def Z1e(K:PySem.W.Frag)(ta:TA):TI:=fun σ H R=>ta σ H fun vs H1=>∃a xs,vs=[.ref a]∧SqL K H1 a xs∧R (Ite1 K a) H1
end
end L2
namespace DL
open PySem PySem.Spec PyProof.Rows L2
variable{K:PySem.W.Frag}
noncomputable def Zwc(xs:List D):List D:=(xs.zipIdx 1).map fun p=>.tup [.int (p.2:Nat),p.1]
section
variable{Z:Ent K}{H:Hp}{σ:L2.St}{Q:VK}
@[simp] noncomputable def Z1f(fd:FD):FD:=fun δ=>(fd δ).bind fun p=>match p.1 with
 | [.lst xs]=>some (Zwc xs,p.2)
 |_=>none
end
section
variable{X:Cx}{Z:Ent X.K}{a:Expr}{fa:FE}{pos:Pos}
end
end DL
namespace DL
open PySem PySem.Spec PyProof.Rows L2
variable{K:PySem.W.Frag}
section
variable{Z:Ent K}
@[simp] noncomputable def Z2t:List D→Option SV
 | [.lst xs]=>some (.fz (.int (xs.length:Nat)))
 | [.tup xs]=>some (.fz (.int (xs.length:Nat)))
 | [.str x]=>if x.length≤PySem.sizeLine then some (.fz (.int (x.length:Nat)))else none
 | [.dK ks _]=>some (.fz (.int (ks.length:Nat)))
 |_=>none
end
section
variable{X:Cx}{Z:Ent X.K}{a:Expr}{fa:FE}{pos:Pos}
end
end DL
namespace DL
open PySem PySem.Spec PyProof.Rows L2
variable{K:PySem.W.Frag}
section
variable{Z:Ent K}{H:Hp}{σ:L2.St}{Q:VK}{E:Ends}
noncomputable abbrev UR:=D×List Key×List D
noncomputable abbrev UG:=Addr→List D→List Key→List D→Option UR
noncomputable def spU(K:PySem.W.Frag)(n:Nat)(g:UG):Sp:=fun vs H Q _=>∃F a us ds kvs ep es r,vs=us++[V.ref a]∧Same F H∧Reps K F ds us∧ds.length=n∧Reps K F es (kvs.map (·.2))∧F a=none∧H a=some (.dK kvs ep)∧g a ds (kvs.map (·.1)) es=some r∧
 ∀v H' F' kvs' ep',Same (hole H [(a,.dK kvs ep)]) H'→Same F F'→Same F' H'→(∀(b:Addr) (o:HO),F' b=some o→F b=some o∨hole H [(a,.dK kvs ep)] b=none)→Rep K F' r.1 v→kvs'.map (·.1)=r.2.1→Reps K F' r.2.2 (kvs'.map (·.2))→F' a=none→H' a=some (.dK kvs' ep')→Q v H'
@[simp] noncomputable def runs:List FS→DSt→Option DSt
 | [],δ=>some δ
 |f::r,δ=>match f δ with
  |some (.nx δ1)=>runs r δ1
  |_=>none
noncomputable def Zzn(Z:Ent K):List FS→TS→TS
 | [],t=>t
 |f::r,t=>tSeq (Zy Z f) (Zzn Z r t)
@[simp] noncomputable def Zwd(n:Nat)(a:Addr)(ds:List D)(ks:List Key)(es:List D):DSt:=ds.map (fun d=>some (.fz d))++some (.oQ a ks es)::List.replicate (n- ds.length- 1) none
@[simp] noncomputable def Zzo(a:Addr)(d:D):Option (Option SV)→Option UR
 |some (some (.oQ b ks es))=>if b=a then some (d,ks,es)else none
 |_=>none
@[simp] noncomputable def outU(fs:List FS)(fe:FE)(n:Nat):UG:=fun a ds ks es=>(runs fs (Zwd n a ds ks es)).bind fun δ=>(fe δ).bind fun p=>(frz p.1 p.2).bind fun q=>Zzo a q.1 (q.2[ds.length]?)
noncomputable def Z2u(Z:Ent K)(f:FE):TE:=fun σ H Q=>∃F δ own rv δ',SR Z F H σ δ own∧f δ=some (rv,δ')∧
 ∀v H' F' own',Same F F'→SR Z F' H' σ δ' own'→RVS K F' σ rv v→Q v H'
noncomputable def Z1g(Z:Ent K)(i:Nat)(fd:FD):TA:=fun σ H R=>Zcg Z fd σ H fun vs H1=>∃x,σ[i]? =some (some x)∧R (vs++[x]) H1
open Classical in
noncomputable def Z1h(i n:Nat)(g:UG)(fd:FD):FE:=fun δ=>(fd δ).bind fun p=>if p.1.length=n then match p.2[i]? with
 |some (some (.oK ks es))=>if h:∃r,∀a,g a p.1 ks es=some r then some (.tmp (.fz h.choose.1),p.2.set i (some (.oK h.choose.2.1 h.choose.2.2)))else none
 |_=>none else none
@[simp] noncomputable def Z2v(g:D→D→Option SV)(fa fb:FE):FE:=fun δ=>(fa δ).bind fun p=>(frz p.1 p.2).bind fun q=>(fb q.2).bind fun r=>(rdv r.1 r.2).bind fun d2=>(g q.1 d2).bind fun sv=>if sv.scal then some (.tmp sv,r.2)else none
@[simp] noncomputable def Z2w(i:Nat)(fe:FE):FS:=fun δ=>match δ[i]? with
 |some (some (.ol _))=>(fe δ).bind fun p=>(frz p.1 p.2).bind fun q=>match q.2[i]? with
  |some (some (.ol xs))=>if xs.length<PySem.sizeLine then some (.nx (q.2.set i (some (.ol (xs++[q.1])))))else none
  |_=>none
 |_=>none
end
section
variable{X:Cx}{Z:Ent X.K}{a b c:Expr}{fa fb fc:FE}{pos:Pos}
end
end DL
namespace DL
open PySem PySem.Spec PyProof.Rows L2
variable{K:PySem.W.Frag}
noncomputable def SkD(ks:List Key)(m:Nat)(d:D):Prop:=∃vs,d= .dK ks vs∧ks.length=vs.length∧∀v∈vs,∃(x:Str) (ks2:List Key) (ys:List Str),v= .tup [.str x,.dK ks2 (ys.map D.str)]∧ys.length≤m
noncomputable def Skel(W:Addr→Prop)(H:Hp)(ks:List Key)(m:Nat)(v:V):Prop:=∃a kvs ep,v= .ref a∧W a∧H a=some (.dK kvs ep)∧kvs.map (·.1)=ks∧∀p∈kvs,∃t x b kvs2 ep2,p.2= .ref t∧W t∧H t=some (.tup [.str x,.ref b])∧W b∧H b=some (.dK kvs2 ep2)∧kvs2.length≤m∧∀q∈kvs2,∃y,q.2= .str y
noncomputable def Z2x(Z:Ent K)(F:Hp)(own:Nat→Zl)(W:Addr→Prop):Prop:=∀b,W b→F b=none∧Z.h b=none∧∀i p,p∈own i→p.1≠b
section
variable{Z:Ent K}{F H:Hp}{σ:L2.St}{δ:DSt}{own:Nat→Zl}{W:Addr→Prop}
open Classical in
noncomputable def wH(W:Addr→Prop)(H F:Hp):Hp:=fun b=>if W b then H b else F b
noncomputable def entW(Z:Ent K)(W:Addr→Prop)(H F:Hp):Ent K:=⟨wH W H Z.h,F,Z.x⟩
end
section
variable{Z:Ent K}{H:Hp}{σ:L2.St}{Q:VK}{E:Ends}
noncomputable def Zzp(i j n:Nat)(ds:List D)(δ1:DSt)(sv:SV)(T1 T2:FT)(is:List D)(δ3:DSt):Prop:=
 ds.length=n∧(∀d∈ds,SV.scal (.fz d)=true)∧i≠j∧i<δ1.length∧j<δ1.length∧∃(ks:List Key) (m:Nat) (ks':List Key),SkD ks m sv.toD∧(∃δ2,T1 (δ1.set i (some (.fz sv.toD)))=some (false,δ2))∧is=ks'.map keyD∧(∀k∈ks',k∈ks)∧m+ks'.length<PySem.sizeLine∧
  ∀k∈ks',∀m' d,SkD ks m' d→∃δ4,T2 ((δ3.set i (some (.fz d))).set j (some (.fz (keyD k))))=some (false,δ4)
open Classical in
noncomputable def Z2y(i j n:Nat)(g:List D→Option SV)(fd:FD)(T1:FT)(fi:FE)(T2:FT):FS:=fun δ=>(fd δ).bind fun p=>(g p.1).bind fun sv=>(dicI fi (p.2.set i none)).bind fun q=>
 if Zzp i j n p.1 p.2 sv T1 T2 q.1 q.2 then some (.nx ((q.2.set i none).set j none))else none
noncomputable abbrev tWay(i j:Nat)(K:PySem.W.Frag):TE:=tOp (rIx K) (Zuv (tVar i) (tVar j)) (tC (.int 1))
noncomputable def allI(K:PySem.W.Frag)(fi:FE):TI:=fun σ H R=>∃Z':Ent K,Zci Z' (dicI fi) σ H R
end
section
variable{X:Cx}{Z:Ent X.K}{a b c:Expr}{fa fb fc:FE}{pos:Pos}
end
end DL
namespace SX
open PySem
noncomputable def Rise(l:List Nat):Prop:=l.Pairwise (· < ·)
noncomputable def At(xs:Array Nat)(j p:Nat):Prop:=p≤xs.size∧(∀i y,i<p→xs[i]? =some y→y<j)∧∀i y,p≤i→xs[i]? =some y→j≤y
theorem Zem{xs:Array Nat}(h:Rise xs.toList){i k y z:Nat}(hi:xs[i]? =some y)(hk:xs[k]? =some z)(hik:i<k):y<z:=by
 rw[←Array.getElem?_toList]at hi hk
 obtain⟨a,ha⟩:=List.getElem?_eq_some_iff.mp hi
 obtain⟨b,hb⟩:=List.getElem?_eq_some_iff.mp hk
 have:=List.pairwise_iff_getElem.mp h i k a b hik
 rw[ha,hb]at this
 exact this
theorem Zsi{xs:Array Nat}{j:Nat}(h:Rise xs.toList):∀(fuel lo hi:Nat),hi≤lo+fuel→lo≤hi→hi≤xs.size→(∀i y,i<lo→xs[i]? =some y→y<j)→(∀i y,hi≤i→xs[i]? =some y→j≤y)→At xs j (SetTable.below.go xs j fuel lo hi)
 |0,lo,hi,h1,h2,h3,a,b=>by
  have:lo=hi:=by omega
  subst this
  unfold SetTable.below.go
  exact⟨h3,a,b⟩
 |fuel+1,lo,hi,h1,h2,h3,a,b=>by
  unfold SetTable.below.go
  by_cases hl:lo<hi
  ·rw[if_pos hl]
   dsimp only
   have hm:(lo+hi) / 2<xs.size:=by omega
   have hg:xs.getD ((lo+hi) / 2) j=xs[(lo+hi) / 2]:=by simp[Array.getD,hm]
   have he:xs[(lo+hi) / 2]? =some xs[(lo+hi) / 2]:=by simp[hm]
   by_cases hc:xs.getD ((lo+hi) / 2) j<j
   ·rw[if_pos hc]
    refine Zsi h fuel _ hi (by omega) (by omega) h3 (fun i y hi' e=>?_) b
    by_cases hq:i=(lo+hi) / 2
    ·subst hq;rw[he]at e;cases e;rw[←hg];exact hc
    ·have:=Zem h e he (by omega)
     rw[hg]at hc;omega
   ·rw[if_neg hc]
    refine Zsi h fuel lo _ (by omega) (by omega) (by omega) a (fun i y hi' e=>?_)
    by_cases hq:i=(lo+hi) / 2
    ·subst hq;rw[he]at e;cases e;rw[←hg];omega
    ·have:=Zem h he e (by omega)
     rw[hg]at hc;omega
  ·rw[if_neg hl]
   have:lo=hi:=by omega
   subst this
   exact⟨h3,a,b⟩
theorem Zjq{xs:Array Nat}(h:Rise xs.toList)(j:Nat):At xs j (SetTable.below xs j):=
 Zsi h xs.size 0 xs.size (by omega) (Nat.zero_le _) (Nat.le_refl _) (fun i _ z=>absurd z (by omega)) fun i y z e=>by
  have:=(Array.getElem?_eq_some_iff.mp e).1;omega
theorem Zsj{xs:Array Nat}{j p q:Nat}(a:At xs j p)(b:At xs j q):p=q:=by
 rcases Nat.lt_trichotomy p q with h|h|h
 ·have hp:p<xs.size:=by have:=b.1;omega
  have e:xs[p]? =some xs[p]:=by simp[hp]
  have:=a.2.2 p _ (Nat.le_refl _) e
  have:=b.2.1 p _ h e
  omega
 ·exact h
 ·have hq:q<xs.size:=by have:=a.1;omega
  have e:xs[q]? =some xs[q]:=by simp[hq]
  have:=b.2.2 q _ (Nat.le_refl _) e
  have:=a.2.1 q _ h e
  omega
theorem Zo7{xs:Array Nat}{j:Nat}(h:Rise xs.toList)(hn:xs[SetTable.below xs j]?≠some j):Rise (SetTable.insertAt xs (SetTable.below xs j) j).toList:=by
 have a:=Zjq h j
 generalize SetTable.below xs j=p at*
 rw[SetTable.toList_insertAt]
 obtain⟨a1,a2,a3⟩:=a
 have lo:∀y∈xs.toList.take p,y<j:=fun y hy=>by
  obtain⟨i,hi,e⟩:=List.getElem_of_mem hy
  rw[List.getElem_take]at e
  have hi':i<p:=by simp at hi;omega
  refine a2 i y hi' ?_
  rw[←Array.getElem?_toList,List.getElem?_eq_some_iff]
  exact⟨_,e⟩
 have hi:∀y∈xs.toList.drop p,j<y:=fun y hy=>by
  obtain⟨i,hi,e⟩:=List.getElem_of_mem hy
  rw[List.getElem_drop]at e
  have ep:xs[p+i]? =some y:=by
   rw[←Array.getElem?_toList,List.getElem?_eq_some_iff]
   exact⟨_,e⟩
  have h1:=a3 (p+i) y (by omega) ep
  rcases Nat.lt_or_eq_of_le h1 with z|z
  ·exact z
  ·subst z
   cases i with
   |zero=>exact absurd ep hn
   |succ i=>
    have hp:p<xs.size:=by have:=(Array.getElem?_eq_some_iff.mp ep).1;omega
    have e0:xs[p]? =some xs[p]:=by simp[hp]
    have q1:=a3 p _ (Nat.le_refl _) e0
    have q2:=Zem h e0 ep (by omega)
    omega
 refine List.pairwise_append.mpr ⟨h.sublist (List.take_sublist _ _),List.pairwise_cons.mpr ⟨hi,h.sublist (List.drop_sublist _ _)⟩,fun a ha b hb=>?_⟩
 rcases List.mem_cons.mp hb with z|z
 ·rw[z];exact lo a ha
 ·exact Nat.lt_trans (lo a ha) (hi b z)
structure Tab(B:Bool)(t:SetTable):Prop where
 led:t.led= !B
 dum:t.dummies= #[]
 rise:t.plain=true→Rise t.place.toList
theorem Zmv(j:Nat):SetTable.has #[] j=false:=by
 unfold SetTable.has
 simp
theorem Tab.fresh(B:Bool)(f m:Nat):Tab B (SetTable.fresh f m (!B)):=⟨rfl,rfl,fun _=>List.Pairwise.nil⟩
theorem Tab.standIn{B:Bool}{t:SetTable}(h:Tab B t)(n:Nat):Tab B (t.standIn n):=⟨h.led,rfl,fun z=>nomatch z⟩
theorem Tab.or{B:Bool}{t:SetTable}(h:Tab B t)(n:Nat):Tab B (t.orStandIn n):=by
 unfold SetTable.orStandIn
 split
 ·exact h
 ·exact h.standIn n
theorem Tab.plainOff{B:Bool}{t:SetTable}(h:Tab B t):Tab B {t with plain:=false}:=⟨h.led,h.dum,fun z=>nomatch z⟩
theorem Zen{t:SetTable}(hd:t.dummies= #[])(f:Nat→Int)(h:Int):∀(n:Nat) (p:SetTable.Probe),p.dummy=none→∀j d,SetTable.probe.go t f h n p=some (.empty j d)→d=none∧t.place[SetTable.below t.place j]?≠some j
 |0,p,_,j,d,e=>by unfold SetTable.probe.go at e;cases e
 |n+1,p,hp,j,d,e=>by
  unfold SetTable.probe.go at e
  have hadv:∀q:SetTable.Probe,(t.advance q).dummy=q.dummy:=fun q=>by
   unfold SetTable.advance
   split
   ·rfl
   ·rfl
  cases hs:t.slot p.j with
  |empty=>
   rw[hs]at e
   dsimp only at e
   cases e
   refine⟨hp,fun z=>?_⟩
   unfold SetTable.slot at hs
   dsimp only at hs
   rw[if_pos (by rw[z];simp)]at hs
   cases hs
  |dummy=>
   unfold SetTable.slot at hs
   dsimp only at hs
   rw[hd,Zmv]at hs
   split at hs
   ·cases hs
   ·simp at hs
  |live i=>
   rw[hs]at e
   dsimp only at e
   split at e
   ·cases e
   ·exact Zen hd f h n _ ((hadv p).trans hp) j d e
theorem Zsk{t:SetTable}(hd:t.dummies= #[]){h:Int}{j:Nat}{b:Bool}(e:t.freeSlot h=some (j,b)):t.place[SetTable.below t.place j]?≠some j:=by
 unfold SetTable.freeSlot at e
 split at e
 ·rename_i j' d hq
  cases e
  unfold SetTable.probe at hq
  obtain⟨rfl,z⟩:=Zen hd _ _ _ _ rfl _ _ hq
  exact z
 ·cases e
theorem Tab.put{B:Bool}{t:SetTable}(h:Tab B t){j:Nat}(hn:t.place[SetTable.below t.place j]?≠some j):Tab B (t.put j).1:=by
 unfold SetTable.put
 dsimp only
 refine⟨h.led,?_,fun z=>Zo7 (h.rise z) hn⟩
 dsimp only
 rw[h.dum,Zmv];rfl
theorem Tab.layNew{B:Bool}{t:SetTable}(h:Tab B t)(es:Array (Int×Value))(k:Int)(x:Value):Tab B (layNew t es k x).2.1:=by
 unfold PySem.layNew
 split
 ·rename_i slot wd hf
  exact(h.put (Zsk h.dum hf)).or _
 ·exact h.standIn _
theorem Tab.relay{B:Bool}{t:SetTable}(h:Tab B t)(es:Array (Int×Value))(n:Nat):Tab B (relayAll t es n).2.1:=by
 unfold relayAll
 split
 ·rename_i t' order hr
  dsimp only
  split
  ·unfold SetTable.relaid SetTable.laid at hr
   obtain⟨owner,ho,e⟩:=Option.bind_eq_some_iff.mp hr
   cases e
   refine⟨h.led,rfl,fun _=>?_⟩
   unfold Rise
   dsimp only
   rw[List.pairwise_map]
   refine List.Pairwise.filterMap _ (fun a b hab c hc d hd=>?_) List.pairwise_lt_range
   obtain⟨_,_,rfl⟩:=Option.map_eq_some_iff.mp hc
   obtain⟨_,_,rfl⟩:=Option.map_eq_some_iff.mp hd
   exact hab
  ·exact h.standIn _
 ·exact h.standIn _
end SX
namespace SX
open PySem PyProof.Rows
variable{prog:Program}{w:World}{A:Around}{E:Value→Shared→Prop}{s:Shared}
noncomputable abbrev nums(l:List (Int×Value)):List Int:=l.map fun e=>numOf e.2
noncomputable def Own(prog:Program)(w:World)(B:Bool)(o:Obj)(ks:List Int):Prop:=∃es ep t,o.ExactSet∧o.data= .set es ep t∧ElemsOf (intKind prog w) es.toList∧(nums es.toList).Perm ks∧t.fits es.size=true∧Tab B t∧es.size<scanBound
theorem Zhf{k:Int}{v:Value}(h:(intKind prog w).is k v=true):∃t,v= .int k t:=Value.isInt_shape h
theorem Zjr{l:List (Int×Value)}(h:ElemsOf (intKind prog w) l){e:Int×Value}(he:e∈l):∃t,e.2= .int (numOf e.2) t:=by
 obtain⟨⟨k,hk,_⟩,_⟩:=h e he
 obtain⟨t,ht⟩:=Zhf hk
 exact⟨t,by rw[ht];rfl⟩
theorem Zqd{k:Int}{l:List (Int×Value)}(h:ElemsOf (intKind prog w) l){e:Int×Value}(he:e∈l):(intKind prog w).is k e.2=true↔numOf e.2=k:=by
 obtain⟨t,ht⟩:=Zjr h he
 constructor
 ·intro z
  obtain⟨u,hu⟩:=Zhf z
  rw[hu];rfl
 ·intro z
  rw[ht,z]
  exact intKind_is _ _ _ _
theorem Zqe{B:Bool}{a:Addr}{o:Obj}{es0 es1:Array (Int×Value)}{ep:Nat}{t0 t1:SetTable}{ks:List Int}{wd:Bool}{g:Bool→Sem Unit}{R:Option Bool→Shared→Prop}
  (hg:∀(b:Bool) (s':Shared) (Q:Unit→Shared→Prop),Q () s'→wpAny (model prog w) A (g b) Q E s') (ho:s.heap.get? a=some o) (hx:o.ExactSet) (hd:o.data= .set es0 ep t0) (el:ElemsOf (intKind prog w) es1.toList)
  (pm:(nums es1.toList).Perm ks) (hb:es1.size<scanBound) (hf:t1.fits es1.size=true) (ht:Tab B t1) (h:∀h' o',Heap.SameBut a s.heap h'→h'.get? a=some o'→Own prog w B o' ks→R (some true) {s with heap:=h'}):
  wpAny (model prog w) A (do
   storeSet a es1 t1
   if(!wd&&t1.tooFull)=true then do
    g (relayAll t1 es1 (SetTable.grown es1.size)).2.2
    storeSet a (relayAll t1 es1 (SetTable.grown es1.size)).1 (relayAll t1 es1 (SetTable.grown es1.size)).2.1
    pure (some true)
   else pure (some true)) R E s:=by
 have o1:(s.heap.update a (Obj.putSet es1 t1)).get? a=some {o with data:=.set es1 (ep+1) t1}:=by
  have z:=Heap.get?_update_self (Obj.putSet es1 t1) ho (by rw[putSet_of es1 t1 hd];rfl)
  rw[putSet_of es1 t1 hd]at z
  exact z
 have b1:=Heap.SameBut.update s.heap a (Obj.putSet es1 t1)
 refine wpAny_bind (wpAny_storeSet_of ho hd ?_ (fits_of_scanBound hb))
 split
 ·have q1:=relayAll_perm t1 es1 (SetTable.grown es1.size)
  have q2:=relayAll_fits t1 es1 (SetTable.grown es1.size)
  have q3:=ht.relay es1 (SetTable.grown es1.size)
  generalize relayAll t1 es1 (SetTable.grown es1.size)=L at*
  obtain⟨es2,t2,gv⟩:=L
  dsimp only at q1 q2 q3⊢
  have sz:es2.size=es1.size:=by rw[←Array.length_toList,q1.length_eq,Array.length_toList]
  have hb2:es2.size<scanBound:=by omega
  refine wpAny_bind (hg _ _ _ ?_)
  refine wpAny_bind (wpAny_storeSet_of o1 rfl ?_ (fits_of_scanBound hb2))
  have o2:=Heap.get?_update_self (Obj.putSet es2 t2) o1 (by rw[putSet_of es2 t2 rfl];rfl)
  rw[putSet_of es2 t2 rfl]at o2
  exact wpAny_pure (h _ _ (b1.trans (Heap.SameBut.update _ a _)) o2 ⟨es2,_,t2,hx,rfl,el.perm q1,(q1.map _).trans pm,q2,q3,hb2⟩)
 ·exact wpAny_pure (h _ _ b1 o1 ⟨es1,_,t1,hx,rfl,el,pm,hf,ht,hb⟩)
theorem Zwe{B:Bool}{a:Addr}{o:Obj}{ks:List Int}{k:Int}{t:Tok}{Q:Bool→Shared→Prop}(ho:s.heap.get? a=some o)(hS:Own prog w B o ks)(hr:ks.length+1<scanBound)
  (h:∀h' o' b,Heap.SameBut a s.heap h'→h'.get? a=some o'→Own prog w B o' (if k∈ks then ks else ks++[k])→Q b {s with heap:=h'}):
  wpAny (model prog w) A (setAddHashed a (.int k t) (hashInt k)) Q E s:=by
 obtain⟨es,ep,tb,hx,hd,el,pm,hf,ht,hb⟩:=hS
 have hk:(intKind prog w).is k (.int k t)=true:=intKind_is _ _ _ _
 have sz:es.size=ks.length:=by
  have:=pm.length_eq
  rw[List.length_map,Array.length_toList]at this
  exact this
 unfold setAddHashed setAddHashedIn
 refine wpAny_holding (wpAny_bind (wpAny_setState_of ho hd hf ?_))
 dsimp only
 rw[byScan_of (knd:=intKind prog w) (x:=.int k t) rfl hb el]
 simp only[↓reduceIte]
 unfold setAddByScan
 refine wpAny_bind (wpAny_bind (wpAny_rule (wpAny_bind (wpAny_setScan_of (knd:=intKind prog w) (k:=k) hk ho hd hf el ?_))))
 cases hq:es.toList.findIdx? (fun e=>(intKind prog w).is k e.2)with
 |some j=>
  dsimp only
  obtain⟨hj,pj,_⟩:=List.findIdx?_eq_some_iff_getElem.mp hq
  have mem:k∈ks:=pm.mem_iff.mp (List.mem_map.mpr ⟨_,List.getElem_mem hj,(Zqd el (List.getElem_mem hj)).mp pj⟩)
  have z:=h s.heap o false (Heap.SameBut.refl a s.heap) ho (by rw[if_pos mem];exact⟨es,ep,tb,hx,hd,el,pm,hf,ht,hb⟩)
  exact wpAny_pure (wpAny_pure z)
 |none=>
  dsimp only
  have out:k∉ks:=fun z=>by
   obtain⟨e,he,en⟩:=List.mem_map.mp (pm.mem_iff.mpr z)
   have:=List.findIdx?_eq_none_iff.mp hq e he
   rw[(Zqd el he).mpr en]at this
   cases this
  have q1:=layNew_perm tb es (hashInt k) (.int k t)
  have q2:=layNew_fits tb es (hashInt k) (.int k t)
  have q3:=ht.layNew es (hashInt k) (.int k t)
  generalize layNew tb es (hashInt k) (.int k t)=L at*
  obtain⟨es1,t1,wd,gv⟩:=L
  dsimp only at q1 q2 q3⊢
  rw[Array.toList_push]at q1
  have el1:ElemsOf (intKind prog w) es1.toList:=(el.push hk rfl).perm q1
  have pm1:(nums es1.toList).Perm (ks++[k]):=(q1.map _).trans (by
   rw[List.map_append]
   exact pm.append_right _)
  have sz1:es1.size=es.size+1:=by rw[←Array.length_toList,q1.length_eq,List.length_append,Array.length_toList];rfl
  have fin:∀h' o',Heap.SameBut a s.heap h'→h'.get? a=some o'→Own prog w B o' (ks++[k])→Q true {s with heap:=h'}:=fun h' o' x y z=>h h' o' true x y (by rw[if_neg out];exact z)
  refine wpAny_bind ?_
  have gw:∀(b:Bool) (s':Shared) (R:Unit→Shared→Prop),R () s'→wpAny (model prog w) A (match b with|true=>rule "set.scan.the-table-gave-way" |false=>pure ()) R E s':=fun b s' R hR=>by
   cases b
   ·exact wpAny_pure hR
   ·exact wpAny_rule hR
  refine gw gv _ _ ?_
  split
  ·rw[hashByValue_scannable 8 (x:=Value.int k t) rfl]
   refine wpAny_bind (wpAny_pure ?_)
   refine Zqe (B:=B) (ks:=ks++[k]) gw ho hx hd el1 pm1 (by omega) ?_ ?_ ?_
   ·split
    ·exact q2
    ·exact SetTable.fits_plain_off q2
   ·split
    ·exact q3
    ·exact q3.plainOff
   ·exact fun h' o' x y z=>wpAny_pure (fin h' o' x y z)
  ·refine wpAny_bind (wpAny_pure ?_)
   simp only[↓reduceIte]
   exact Zqe (B:=B) (ks:=ks++[k]) gw ho hx hd el1 pm1 (by omega) q2 q3 fun h' o' x y z=>wpAny_pure (fin h' o' x y z)
end SX
namespace SX
open PySem PySem.Spec PyProof.Rows
noncomputable def dd(val:Nat→Int):Nat→List Int
 |0=>[]
 |i+1=>if val i∈dd val i then dd val i else dd val i++[val i]
theorem Zjs(val:Nat→Int):∀i,(dd val i).length≤i
 |0=>Nat.le_refl _
 |i+1=>by
  have:=Zjs val i
  unfold dd
  split
  ·omega
  ·rw[List.length_append];simp;omega
theorem Zjt(val:Nat→Int):∀i,(dd val i).Nodup
 |0=>List.nodup_nil
 |i+1=>by
  have ih:=Zjt val i
  unfold dd
  split
  ·exact ih
  ·rename_i h
   refine List.nodup_append.mpr ⟨ih,by simp,fun a ha b hb=>?_⟩
   rw[List.mem_singleton.mp hb]
   exact fun z=>h (z▸ha)
theorem Zqf(val:Nat→Int)(k:Int):∀i,k∈dd val i↔∃j,j<i∧val j=k
 |0=>⟨fun h=>(nomatch h),fun⟨j,h,_⟩=>absurd h (by omega)⟩
 |i+1=>by
  have ih:=Zqf val k i
  have up:(∃j,j<i+1∧val j=k)↔((∃j,j<i∧val j=k)∨val i=k):=by
   constructor
   ·rintro⟨j,hj,e⟩
    by_cases z:j=i
    ·subst z;exact .inr e
    ·exact .inl ⟨j,by omega,e⟩
   ·rintro(⟨j,hj,e⟩|e)
    ·exact⟨j,by omega,e⟩
    ·exact⟨i,by omega,e⟩
  rw[up,←ih,show dd val (i+1)=if val i∈dd val i then dd val i else dd val i++[val i]from rfl]
  split
  ·rename_i h
   constructor
   ·exact .inl
   ·rintro(z|z)
    ·exact z
    ·rw[←z];exact h
  ·rw[List.mem_append,List.mem_singleton]
   exact⟨fun z=>z.imp id Eq.symm,fun z=>z.imp id Eq.symm⟩
section
variable{prog:Program}{w:World}{A:Around}{R:Result→Shared→Prop}{I:Addr}{fp wr:List Addr}{G:Array GenState→Array GenState→Prop}{n:Nat}{P:Nat→Value→Prop}{St:Nat→Shared→Prop}
theorem Zsl{B:Bool}(W:WalksS prog w A.in1 I fp wr G n P St)(S:Addr)(hS:S∉fp)(val:Nat→Int)(hv:∀i v,P i v→∃t,v= .int (val i) t)(hb:n+1<scanBound):∀(m i:Nat) (s:Shared) (o:Obj),i+m=n→St i s→s.heap.get? S=some o→Own prog w B o (dd val i)→
  (∀s' o',Moved (S::wr) G s s'→s'.heap.get? S=some o'→Own prog w B o' (dd val n)→R (.ok (.ret .none)) s')→codeAny (model prog w) A (.builtin "set.update.loop" ⟨[.ref S,.ref I],[]⟩) R s:=by
 have nw:S∉wr:=fun z=>hS (W.sub _ z)
 have up:∀b∈wr,b∈S::wr:=fun _ z=>List.mem_cons_of_mem _ z
 intro m
 induction m with
 |zero=>
  intro i s o hi st ho hO hR
  obtain rfl:i=n:=hi
  refine codeAny_builtin PyProof.Rows.F.entry_set_update_loop ?_
  rw[Around.under_plainId PyProof.Rows.F.plain_set_update_loop _]
  show wpAny _ A.in1 (pyNext (.ref I) >>=_) _ _ s
  refine wpAny_bind (W.done s _ _ st fun s' mv=>?_)
  exact wpAny_pure (hR s' o (mv.mono up) (mv.heap S _ nw ho) hO)
 |succ m ih=>
  intro i s o hi st ho hO hR
  have hl:i<n:=by omega
  refine codeAny_builtin PyProof.Rows.F.entry_set_update_loop ?_
  rw[Around.under_plainId PyProof.Rows.F.plain_set_update_loop _]
  show wpAny _ A.in1 (pyNext (.ref I) >>=_) _ _ s
  refine wpAny_bind (W.item i s _ _ hl st fun v s1 pv st1 mv=>?_)
  obtain⟨t,rfl⟩:=hv i v pv
  have ho1:=mv.heap S _ nw ho
  show wpAny _ A.in1 (holding [Value.int (val i) t] (setAdd S (.int (val i) t)) >>=_) _ _ s1
  refine wpAny_bind (wpAny_holding ?_)
  unfold setAdd
  refine wpAny_holding (wpAny_bind (wpAny_pyHash_int ?_))
  refine Zwe (s:={s1 with toks:=s1.toks+1}) ho1 hO (by have:=Zjs val i;omega) fun h2 o2 b sb g2 O2=>?_
  refine wpAny_pure ⟨plainId_quiet PyProof.Rows.F.plain_set_update_loop _,ih (i+1) _ o2 (by omega) (W.frame _ s1 _ _ st1 (Nat.le_succ _) fun c hc x e=>?_) g2 ?_ fun s3 o3 m3 g3 O3=>?_⟩
  ·rw[sb.2 c fun z=>hS (z▸hc)];exact e
  ·show Own prog w B o2 (if val i∈dd val i then dd val i else dd val i++[val i])
   exact O2
  ·refine hR s3 o3 (Moved.trans W.gtrans ((mv.mono up).then_heap (Nat.le_succ _) fun c x hc e=>?_) m3) g3 O3
   rw[sb.2 c fun z=>hc (z▸List.mem_cons_self)];exact e
end
noncomputable abbrev By(w:World):Bool:=w.params.followText "set-order"
noncomputable abbrev setO(w:World):Obj:={cls:=.type "set",dict:=none,data:=.set #[] 0 (.fresh 0 0 (!By w))}
section
variable{prog:Program}{w:World}{A:Around}{E:Value→Shared→Prop}{s:Shared}
theorem own0:Own prog w (By w) (setO w) []:=⟨#[],0,_,⟨rfl,rfl,rfl⟩,rfl,(fun e he=>by simp at he),List.Perm.nil,rfl,Tab.fresh _ _ _,by decide⟩
theorem Zsm(a:Value){Q:Value→Shared→Prop}(h:Q (.ref s.heap.objs.size) {s with heap:=s.heap.push (setO w)}):
  codeAny (model prog w) A (.call (.builtin "set.__new__") ⟨[.type "set",a],[]⟩) (wants Q E) s:=by
 refine codeAny_of_tree ?_
 show wpAny _ A.in1 (checkBuiltinCall "set.__new__" ⟨[.type "set",a],[]⟩>>=fun _=>again (.builtin "set.__new__" ⟨[.type "set",a],[]⟩)) _ _ s
 refine wpAny_bind (wpAny_of_eq (PySem.F.newCall_set_1 a) (wpAny_pure ⟨plainId_quiet PySem.F.plain_set_new _,codeAny_builtin PySem.F.entry_set_new ?_⟩))
 rw[Around.under_plainId PySem.F.plain_set_new _]
 have hs:=sub_set_self
 obtain⟨hp,g,d,tk,os⟩:=s
 unfold Builtin.«set.__new__» Builtin.Frozenset.newClass
 dsimp only
 wp_walk
 refine wpAny_askSetting (wpAny_pure ?_)
 dsimp only
 simp only[newObj]
 exact wpAny_bind (wpAny_alloc (wpAny_pure (wpAny_pure h)))
theorem Zsn{l:Addr}{its:Array Value}{ns:List Int}{Q:Value→Shared→Prop}(hh:A.handled=none)(hl:s.heap.IsList l its)(hi:IntsAre its.toList ns)(hb:its.size+1<scanBound)
  (h:∀(h':Heap) (tk:Nat) (o:Obj),h'.get? s.heap.objs.size=some o→Own prog w (By w) o (dd (fun i=>ns.getD i 0) its.size)→(∀b x,b<s.heap.objs.size→s.heap.get? b=some x→h'.get? b=some x)→Q (.ref s.heap.objs.size) {s with heap:=h',toks:=tk}):
  wpAny (model prog w) A (call (.type "set") [.ref l]) Q E s:=by
 obtain⟨c,tl,hmro⟩:=PySem.F.called_set.mro
 have hmade:=PySem.F.called_set.made
 have hsub:=PySem.F.called_set.sub
 have h1:=PySem.F.called_set.notType
 have h2:=PySem.F.called_set.canCreate
 have hct:=PySem.F.typeCall_set_1 (.ref l)
 refine wpAny_call (codeAny_of_tree ?_)
 show wpAny _ _ (callAny (.type "set") _) _ _ _
 refine wpAny_pure ⟨Code.quiet_builtin _ (by decide+kernel),codeAny_builtin PySem.F.entry_type_call ?_⟩
 rw[Around.under_plain (weight_type_call_type "set" [.ref l] []) rfl]
 repeat (any_goals (first|assumption|wp_step))
 refine codeAny_mono (Zsm (.ref l) (E:=E) (Q:=fun v s1=>v= .ref s.heap.objs.size∧s1={s with heap:=s.heap.push (setO w)}) ⟨rfl,rfl⟩) fun r s1 hr=>?_
 cases r with
 |error e=>exact hr
 |ok fl=>
  cases fl with
  |ret obj=>
   obtain⟨rfl,rfl⟩:=hr
   have hS:(s.heap.push (setO w)).get? s.heap.objs.size=some (setO w):=Heap.get?_push_size _ rfl
   have hT:Shared.TypeIs {s with heap:=s.heap.push (setO w)} (.ref s.heap.objs.size) "set":=⟨_,hS,rfl⟩
   have hli:=PySem.F.called_set.init.lookup
   have hbi:=PySem.F.called_set.init.bind (.ref s.heap.objs.size)
   repeat (any_goals (first|assumption|wp_step))
   refine codeAny_mono (codeAny_call_builtin (R:=wants (fun r s2=>r= .none∧∃h' tk o,s2={s with heap:=h',toks:=tk}∧h'.get? s.heap.objs.size=some o∧Own prog w (By w) o (dd (fun i=>ns.getD i 0) its.size)∧(∀b x,b<s.heap.objs.size→s.heap.get? b=some x→h'.get? b=some x)) E)
    PySem.F.called_set.init.plain PySem.F.entry_set_init (check_set_init_1 hT ?_)) fun r2 s2 hr2=>?_
   ·obtain⟨ol,hol,hcl,nl,hdl⟩:=hl
    obtain⟨ocls,od,odata,osl⟩:=ol
    simp only at hcl hdl
    subst hcl hdl
    have hol':(s.heap.push (setO w)).get? l=some {cls:=.type "list",dict:=od,data:=.seq its nl,slots:=osl}:=Heap.get?_push_of_some _ hol
    have hsa:=PySem.F.sub_list_set
    have hsb:=PySem.F.sub_list_frozenset
    have hsc:(Value.type "list"==Value.type "dict")=false:=by decide
    have hl1:(s.heap.push (setO w)).IsList l its:=⟨_,hol',rfl,nl,rfl⟩
    unfold Builtin.«set.__init__» noKeywords Builtin.Frozenset.updateFrom
    generalize hPI:pyIter=PI
    wp_walk
    subst hPI
    refine wpAny_pyIter_list hl1 (wpAny_bind (wpAny_runValue ?_))
    have ll:l<s.heap.objs.size:=Heap.lt_size hol
    have hh3:A.in1.in1.in1.handled=none:=by simp[hh]
    have sz:(s.heap.push (setO w)).objs.size=s.heap.objs.size+1:=Heap.size_push _ _
    have ne:l≠(s.heap.push (setO w)).objs.size:=by rw[sz];exact Nat.ne_of_lt (Nat.lt_succ_of_lt ll)
    have nf:s.heap.objs.size∉[(s.heap.push (setO w)).objs.size,l]:=by
     rw[sz]
     simp only[List.mem_cons,List.not_mem_nil,or_false,not_or]
     exact⟨Nat.ne_of_lt (Nat.lt_succ_self _),Nat.ne_of_gt ll⟩
    refine Zsl ((Walks.list hh3 _ l ne its).toS) s.heap.objs.size nf (fun i=>ns.getD i 0) (fun i v hv=>IntsAre.int_at hi i v (by rw[Array.getElem?_toList];exact hv)) hb its.size 0 _ (setO w) (by omega)
     ⟨⟨_,Heap.get?_push_size _ rfl,rfl,rfl⟩,(hl1.push _)⟩ (Heap.get?_push_of_some _ hS) own0 fun s' o' mv go Oo=>?_
    have eg:s'.gens=s.gens:=mv.gens
    have ed:s'.drawn=s.drawn:=mv.drawn
    have eo:s'.os=s.os:=mv.os
    have es:s'={s with heap:=s'.heap,toks:=s'.toks}:=by cases s';simp only at eg ed eo;subst eg ed eo;rfl
    show wpAny _ _ _ _ _ _
    refine wpAny_pure ?_
    show wpAny _ _ (ret Value.none) _ _ _
    refine wpAny_pure ⟨rfl,s'.heap,s'.toks,o',es,go,Oo,fun b x hb e=>?_⟩
    refine mv.heap b x ?_ (Heap.get?_push_of_some _ (Heap.get?_push_of_some _ e))
    simp only[List.mem_cons,List.not_mem_nil,or_false,not_or]
    rw[sz]
    exact⟨Nat.ne_of_lt hb,Nat.ne_of_lt (Nat.lt_succ_of_lt hb)⟩
   ·cases r2 with
    |error e=>exact hr2
    |ok f2=>
     cases f2 with
     |ret r=>
      obtain⟨rfl,h',tk,o',rfl,g',O',k'⟩:=hr2
      repeat (any_goals (first|assumption|wp_step))
      exact h _ _ _ g' O' k'
     |_=>exact hr2.elim
  |_=>exact hr.elim
end
end SX
namespace SX
open PySem PySem.Spec PyProof.Rows
theorem Zag:Slot "set_iterator" "__next__" "set_iterator.__next__":=
 .of (owner:="set_iterator") (n:="__next__") (by rw[typeLookup_type,builtinLookup_eq_fast];kernel_rfl) (by decide+kernel) (by decide+kernel) (by decide+kernel) (by first|exact .inl (by decide+kernel)|exact .inr (by decide+kernel)) (by rw[isSubtype_type];kernel_rfl)
theorem Zce:entryFor table "set_iterator.__next__"=some Builtin.«set_iterator.__next__»:=entryFor_of_tree (by kernel_rfl)
theorem Zc0(a:Value):argsOk "set_iterator.__next__" ⟨[a],[]⟩:=by unfold argsOk;kernel_rfl
theorem Zks:entryFor table "set.__iter__"=some Builtin.«frozenset.__iter__»:=entryFor_alias (id':="frozenset.__iter__") (by kernel_rfl) rfl (by decide+kernel) (by kernel_rfl)
section
variable{prog:Program}{w:World}{A:Around}{E:Value→Shared→Prop}{s:Shared}
theorem Zo8{src:Source}{n:Nat}{Q:Nat→Shared→Prop}(hn:n≠0)(h:∀i d,i<n→Q i {s with drawn:=d}):wpAny (model prog w) A (choose src n) Q E s:=
 fun _ _ _=>⟨hn,h _ _ (Nat.mod_lt _ (Nat.pos_of_ne_zero hn))⟩
theorem Zeo{α:Type}:∀(l:List α) (i:Nat) (h:i<l.length),(l[i]::l.eraseIdx i).Perm l
 |x::l,0,_=>List.Perm.refl _
 |x::l,i+1,h=>(List.Perm.swap x _ _).trans ((Zeo l i (by simpa using h)).cons x)
theorem Zqg{α:Type}:∀(n:Nat) (xs:List α) (s:Shared) {Q:List α→Shared→Prop},n=xs.length→(∀ys d,ys.Perm xs→Q ys {s with drawn:=d})→wpAny (model prog w) A (drawOrder n xs) Q E s
 |0,[],s,Q,_,h=>by
  unfold drawOrder
  exact wpAny_pure (h [] s.drawn (List.Perm.refl _))
 |n+1,x::xs,s,Q,hn,h=>by
  unfold drawOrder
  refine wpAny_bind (Zo8 (by simp) fun i d hi=>?_)
  have e:(x::xs)[i]? =some (x::xs)[i]:=List.getElem?_eq_getElem hi
  rw[e]
  dsimp only
  have hl:n=((x::xs).eraseIdx i).length:=by rw[List.length_eraseIdx_of_lt hi];simpa using hn
  refine wpAny_bind (Zqg n ((x::xs).eraseIdx i) _ hl fun ys d' hp=>wpAny_pure (h _ d' ?_))
  exact(hp.cons _).trans (Zeo _ i hi)
 |0,_::_,_,_,hn,_=>by simp at hn
 |_+1,[],_,_,hn,_=>by simp at hn
end
noncomputable abbrev itO(first:Value)(i:Nat)(r:Addr)(n ep:Nat):Obj:={cls:=.type "set_iterator",dict:=none,data:=.fields #[first,.int (i:Int) 0,.ref r,.int (n:Int) 0,.int (ep:Int) 0],slots:= #[]}
noncomputable abbrev tupO(ps:List Nat):Obj:={cls:=.type "tuple",data:=.seq (ps.map fun i:Nat=>rawInt i).toArray}
section
variable{prog:Program}{w:World}{A:Around}{E:Value→Shared→Prop}{s:Shared}{r:Addr}{o:Obj}{es:Array (Int×Value)}{ep:Nat}{t:SetTable}
theorem Zso{Q:Value→Shared→Prop}(ho:s.heap.get? r=some o)(hx:o.ExactSet)(hd:o.data= .set es ep t)(hf:t.fits es.size=true)(hb:es.size<scanBound)
  (hN:(!By w&&(!t.plain&&decide (es.size > 1)))=false→Q (.ref s.heap.objs.size) {s with heap:=s.heap.push (itO (.int 0 0) 0 r es.size ep)})
  (hD:(!By w&&(!t.plain&&decide (es.size > 1)))=true→∀ps d,ps.Perm (List.range es.size)→Q (.ref (s.heap.objs.size+1)) {s with heap:=(s.heap.push (tupO ps)).push (itO (.ref s.heap.objs.size) 0 r es.size ep),drawn:=d}):
  wpAny (model prog w) A (pyIter (.ref r)) Q E s:=by
 have hT:s.TypeIs (.ref r) "set":=⟨o,ho,hx.1⟩
 refine wpAny_pyIter_slot hT PySem.F.slot_set_iter (wpAny_call_entry PySem.F.slot_set_iter hT Zks ?_ (PySem.F.args_set_iter_1 _))
 unfold Builtin.«frozenset.__iter__»
 refine wpAny_bind (m:=Builtin.Frozenset.slot0 "__iter__" ⟨[.ref r],[]⟩) (Q:=_) (wpAny_pure ?_)
 refine wpAny_bind (m:=Builtin.Frozenset.sizeOf r) ?_
 unfold Builtin.Frozenset.sizeOf
 refine wpAny_bind (wpAny_setEntries_of ho hd hf (wpAny_pure ?_))
 refine wpAny_bind ?_
 unfold setDrawn
 refine wpAny_bind (wpAny_setState_of ho hd hf ?_)
 unfold setsByText
 refine wpAny_bind (wpAny_bind (wpAny_askSetting (wpAny_pure ?_)))
 refine wpAny_pure ?_
 show wpAny _ _ (if(!By w&&(!t.plain&&decide (es.size > 1)))=true then _ else _) _ _ _
 cases hc:(!By w&&(!t.plain&&decide (es.size > 1)))with
 |false=>
  rw[if_neg (by simp)]
  refine wpAny_bind (wpAny_pure ?_)
  refine wpAny_bind (wpAny_setEpoch_of ho hd hf ?_)
  refine wpAny_bind (m:=newFields _ _) (wpAny_newObj_type (wpAny_pure ⟨_,rfl,"set_iterator",_,⟨_,Heap.get?_push_size _ rfl,rfl⟩,Zag.lookup,hN hc⟩))
 |true=>
  rw[if_pos rfl]
  have hl:(List.range es.size).length=es.size:=List.length_range
  refine wpAny_bind ?_
  refine Zqg _ (List.range es.size) _ hl.symm fun ps d hp=>?_
  have pl:ps.length=es.size:=hp.length_eq.trans hl
  refine wpAny_bind (wpAny_newTuple ?_ (by rw[List.length_map,pl];exact fits_of_scanBound hb))
  have ho2:(s.heap.push (tupO ps)).get? r=some o:=Heap.get?_push_of_some _ ho
  refine wpAny_bind (wpAny_setEpoch_of (s:={s with heap:=s.heap.push (tupO ps),drawn:=d}) ho2 hd hf ?_)
  have sz:(s.heap.push (tupO ps)).objs.size=s.heap.objs.size+1:=Heap.size_push _ _
  refine wpAny_bind (m:=newFields _ _) (wpAny_newObj_type (wpAny_pure ⟨_,rfl,"set_iterator",_,⟨_,Heap.get?_push_size _ rfl,rfl⟩,Zag.lookup,?_⟩))
  have z:=hD hc ps d hp
  rw[←sz]at z
  exact z
end
end SX
namespace SX
open PySem PySem.Spec PyProof.Rows
section
variable{prog:Program}{w:World}{A:Around}{E:Value→Shared→Prop}{s:Shared}{I r:Addr}{o:Obj}{es:Array (Int×Value)}{ep:Nat}{t:SetTable}{slot i nx:Nat}{x:Value}{Q:Option Value→Shared→Prop}
noncomputable abbrev Zju(prog:Program)(w:World)(A:Around)(s:Shared)(r:Addr)(slot i ep:Nat)(y:Option (Value×Nat)):Prop:=∀(R:Option (Value×Nat)→Shared→Prop) (E':Value→Shared→Prop),R y s→wpAny (model prog w) A (setNext r slot i ep) R E' s
theorem Zwf(hI:s.heap.get? I=some (itO (.int (slot:Int) 0) i r es.size ep))(ho:s.heap.get? r=some o)(hd:o.data= .set es ep t)(hf:t.fits es.size=true)(hn:Zju prog w A.in1 s r slot i ep (some (x,nx)))
  (hQ:∀h',h'.get? I=some (itO (.int (nx:Int) 0) (i+1) r es.size ep)→Heap.SameBut I s.heap h'→Q (some x) {s with heap:=h'}):wpAny (model prog w) A (pyNext (.ref I)) Q E s:=by
 have hT:s.TypeIs (.ref I) "set_iterator":=⟨_,hI,rfl⟩
 unfold pyNext
 refine wpAny_bind (wpAny_attempt (wpAny_callSpecial?_slot (name:=Str.ofString "__next__") hT Zag (wpAny_call_entry Zag hT Zce ?_ (Zc0 _))))
 unfold Builtin.«set_iterator.__next__»
 refine wpAny_bind (m:=slotArgs "__next__" 0 ⟨[.ref I],[]⟩) (wpAny_pure ?_)
 refine wpAny_bind (wpAny_fieldsOf hI rfl ?_)
 dsimp only
 refine wpAny_bind (wpAny_setEntries_of ho hd hf ?_)
 rw[if_neg (by simp)]
 simp only[Int.toNat_natCast]
 refine wpAny_bind (hn _ _ ?_)
 dsimp only
 refine wpAny_bind (wpAny_setField_rec hI (by simp) fun h1 g1 b1=>?_)
 refine wpAny_bind (wpAny_setField_rec (s:={s with heap:=h1}) g1 (by simp) fun h2 g2 b2=>?_)
 refine wpAny_pure ⟨_,rfl,wpAny_pure (hQ h2 ?_ (b1.trans b2))⟩
 rw[g2]
 rfl
theorem Zwg(hh:A.handled=none)(hI:s.heap.get? I=some (itO (.int (slot:Int) 0) i r es.size ep))(ho:s.heap.get? r=some o)(hd:o.data= .set es ep t)(hf:t.fits es.size=true)(hn:Zju prog w A.in1 s r slot i ep none)
  (hQ:∀h',Heap.ExtBut I s.heap h'→Q none {s with heap:=h'}):wpAny (model prog w) A (pyNext (.ref I)) Q E s:=by
 have hT:s.TypeIs (.ref I) "set_iterator":=⟨_,hI,rfl⟩
 unfold pyNext
 refine wpAny_bind (wpAny_attempt (wpAny_callSpecial?_slot (name:=Str.ofString "__next__") hT Zag (wpAny_call_entry Zag hT Zce ?_ (Zc0 _))))
 unfold Builtin.«set_iterator.__next__»
 refine wpAny_bind (m:=slotArgs "__next__" 0 ⟨[.ref I],[]⟩) (wpAny_pure ?_)
 refine wpAny_bind (wpAny_fieldsOf hI rfl ?_)
 dsimp only
 refine wpAny_bind (wpAny_setEntries_of ho hd hf ?_)
 rw[if_neg (by simp)]
 simp only[Int.toNat_natCast]
 refine wpAny_bind (hn _ _ ?_)
 dsimp only
 refine wpAny_bind (wpAny_setField_rec hI (by simp) fun h1 g1 b1=>?_)
 refine wpAny_bind (m:=newExc (.type "StopIteration") []) ?_
 simp only[newExc,newTuple]
 refine wpAny_bind (wpAny_newObj_type ?_ (by size_fits))
 refine wpAny_bind (m:=firstArgMember _ _) (wpAny_of_eq (a:=Value.none) (by first|rfl| (simp only[firstArgMember];rfl)) ?_)
 refine wpAny_newObj_type ?_ (by size_fits)
 simp only[raiseNew]
 refine wpAny_bind (wpAny_handled ?_)
 rw[show A.in1.handled=none from hh]
 refine wpAny_bind (wpAny_pure (wpAny_throw ?_))
 refine wpAny_bind (wpAny_isInstance (T:="StopIteration") (b:=true) ⟨_,Heap.get?_push_size _ rfl,rfl⟩ isSubtype_stop ?_)
 exact wpAny_pure (hQ _ ((b1.extBut.push _).push _))
theorem Zhg(hB:By w=false)(ho:s.heap.get? r=some o)(hd:o.data= .set es ep t)(hf:t.fits es.size=true)(hl:t.led=true)(hr:(!t.plain&&decide (es.size > 1))=false):
  Zju prog w A s r slot i ep (match es[SetTable.below t.place slot]?,t.place[SetTable.below t.place slot]? with
   |some (_,x),some j=>some (x,j+1)
   |_,_=>none):=by
 intro R E' h
 unfold setNext
 refine wpAny_bind (wpAny_setState_of ho hd hf ?_)
 dsimp only
 unfold setsByText
 refine wpAny_bind (wpAny_bind (wpAny_askSetting (wpAny_pure ?_)))
 have e1:(model prog w).w.params.followText "set-order"=false:=hB
 dsimp only
 rw[if_neg (by rw[e1];simp)]
 show wpAny _ _ (if(!t.plain&&decide (es.size > 1))=true then _ else _) _ _ _
 rw[if_neg (by rw[hr];simp)]
 refine wpAny_bind ?_
 show wpAny _ _ (if(!t.led&& !es.isEmpty)=true then _ else _) _ _ _
 rw[if_neg (by rw[hl];simp)]
 exact wpAny_pure (wpAny_pure h)
theorem Zjv(hB:By w=true)(ho:s.heap.get? r=some o)(hd:o.data= .set es ep t)(hf:t.fits es.size=true):
  Zju prog w A s r slot i ep (((pickOrder (w.params.setOrder r ep) es)[i]?).map fun e=>(e.2,slot)):=by
 intro R E' h
 unfold setNext
 refine wpAny_bind (wpAny_setState_of ho hd hf ?_)
 dsimp only
 unfold setsByText
 refine wpAny_bind (wpAny_bind (wpAny_askSetting (wpAny_pure ?_)))
 have e1:(model prog w).w.params.followText "set-order"=true:=hB
 dsimp only
 rw[if_pos (by rw[e1])]
 rw[if_neg (by simp)]
 refine wpAny_bind ?_
 unfold setWalk
 refine wpAny_bind (wpAny_setState_of ho hd hf ?_)
 dsimp only
 unfold setsByText
 refine wpAny_bind (wpAny_bind (wpAny_askSetting (wpAny_pure ?_)))
 dsimp only
 rw[if_pos (by rw[e1])]
 refine wpAny_bind (wpAny_askSetting (wpAny_pure ?_))
 exact wpAny_pure h
variable{T:Addr}{ps:List Nat}
theorem Zzq{p:Nat}{hx:Int}(hI:s.heap.get? I=some (itO (.ref T) i r es.size ep))(hT0:s.heap.get? T=some (tupO ps))(hp:ps[i]? =some p)(he:es[p]? =some (hx,x))(ho:s.heap.get? r=some o)(hd:o.data= .set es ep t)(hf:t.fits es.size=true)
  (hQ:∀h',h'.get? I=some (itO (.ref T) (i+1) r es.size ep)→Heap.SameBut I s.heap h'→Q (some x) {s with heap:=h'}):wpAny (model prog w) A (pyNext (.ref I)) Q E s:=by
 have hT:s.TypeIs (.ref I) "set_iterator":=⟨_,hI,rfl⟩
 unfold pyNext
 refine wpAny_bind (wpAny_attempt (wpAny_callSpecial?_slot (name:=Str.ofString "__next__") hT Zag (wpAny_call_entry Zag hT Zce ?_ (Zc0 _))))
 unfold Builtin.«set_iterator.__next__»
 refine wpAny_bind (m:=slotArgs "__next__" 0 ⟨[.ref I],[]⟩) (wpAny_pure ?_)
 refine wpAny_bind (wpAny_fieldsOf hI rfl ?_)
 dsimp only
 refine wpAny_bind (wpAny_setEntries_of ho hd hf ?_)
 rw[if_neg (by simp)]
 refine wpAny_bind (m:=seqItems? (.ref T)) ?_
 unfold seqItems?
 refine wpAny_bind (wpAny_load hT0 (wpAny_pure ?_))
 dsimp only
 have e1:(ps.map fun i:Nat=>rawInt i).toArray[((i:Nat):Int).toNat]? =some (.int (p:Int) 0):=by
  simp[hp,rawInt]
 rw[e1]
 dsimp only
 refine wpAny_bind ?_
 unfold setNextDrawn
 refine wpAny_bind (wpAny_setState_of ho hd hf ?_)
 dsimp only
 rw[if_neg (by simp)]
 have e2:es[((p:Nat):Int).toNat]? =some (hx,x):=by simpa using he
 rw[e2]
 refine wpAny_pure ?_
 refine wpAny_bind (wpAny_setField_rec hI (by simp) fun h1 g1 b1=>?_)
 refine wpAny_pure ⟨_,rfl,wpAny_pure (hQ h1 ?_ b1)⟩
 rw[g1]
 rfl
theorem Zzr(hh:A.handled=none)(hI:s.heap.get? I=some (itO (.ref T) i r es.size ep))(hT0:s.heap.get? T=some (tupO ps))(hp:ps[i]? =none)(ho:s.heap.get? r=some o)(hd:o.data= .set es ep t)(hf:t.fits es.size=true)
  (hQ:∀h',Heap.ExtBut I s.heap h'→Q none {s with heap:=h'}):wpAny (model prog w) A (pyNext (.ref I)) Q E s:=by
 have hT:s.TypeIs (.ref I) "set_iterator":=⟨_,hI,rfl⟩
 unfold pyNext
 refine wpAny_bind (wpAny_attempt (wpAny_callSpecial?_slot (name:=Str.ofString "__next__") hT Zag (wpAny_call_entry Zag hT Zce ?_ (Zc0 _))))
 unfold Builtin.«set_iterator.__next__»
 refine wpAny_bind (m:=slotArgs "__next__" 0 ⟨[.ref I],[]⟩) (wpAny_pure ?_)
 refine wpAny_bind (wpAny_fieldsOf hI rfl ?_)
 dsimp only
 refine wpAny_bind (wpAny_setEntries_of ho hd hf ?_)
 rw[if_neg (by simp)]
 refine wpAny_bind (m:=seqItems? (.ref T)) ?_
 unfold seqItems?
 refine wpAny_bind (wpAny_load hT0 (wpAny_pure ?_))
 dsimp only
 have e1:(ps.map fun i:Nat=>rawInt i).toArray[((i:Nat):Int).toNat]? =none:=by
  simp only[Int.toNat_natCast,List.getElem?_toArray,List.getElem?_map,hp,Option.map_none]
 rw[e1]
 dsimp only
 refine wpAny_bind (wpAny_setField_rec hI (by simp) fun h1 g1 b1=>?_)
 refine wpAny_bind (wpAny_setField_rec (s:={s with heap:=h1}) g1 (by simp) fun h2 g2 b2=>?_)
 refine wpAny_bind (m:=newExc (.type "StopIteration") []) ?_
 simp only[newExc,newTuple]
 refine wpAny_bind (wpAny_newObj_type ?_ (by size_fits))
 refine wpAny_bind (m:=firstArgMember _ _) (wpAny_of_eq (a:=Value.none) (by first|rfl| (simp only[firstArgMember];rfl)) ?_)
 refine wpAny_newObj_type ?_ (by size_fits)
 simp only[raiseNew]
 refine wpAny_bind (wpAny_handled ?_)
 rw[show A.in1.handled=none from hh]
 refine wpAny_bind (wpAny_pure (wpAny_throw ?_))
 refine wpAny_bind (wpAny_isInstance (T:="StopIteration") (b:=true) ⟨_,Heap.get?_push_size _ rfl,rfl⟩ isSubtype_stop ?_)
 exact wpAny_pure (hQ _ (((b1.trans b2).extBut.push _).push _))
end
end SX
namespace SX
open PySem PySem.Spec PyProof.Rows
noncomputable abbrev lstO(acc:Array Value)(c:Nat):Obj:={cls:=.type "list",dict:=none,data:=.seq acc c,slots:= #[]}
structure Tells(prog:Program)(w:World)(A:Around)(I:Addr)(fp:List Addr)(ord:List Value)(St:Nat→Heap→Prop):Prop where
 mem:I∈fp
 keep:∀i h h',St i h→(∀b∈fp,∀o,h.get? b=some o→h'.get? b=some o)→St i h'
 step:∀i (s:Shared) x (Q:Option Value→Shared→Prop) (E:Value→Shared→Prop),St i s.heap→ord[i]? =some x→(∀h',St (i+1) h'→Heap.SameBut I s.heap h'→Q (some x) {s with heap:=h'})→wpAny (model prog w) A (pyNext (.ref I)) Q E s
 stop:∀(s:Shared) (Q:Option Value→Shared→Prop) (E:Value→Shared→Prop),St ord.length s.heap→(∀h',Heap.ExtBut I s.heap h'→Q none {s with heap:=h'})→wpAny (model prog w) A (pyNext (.ref I)) Q E s
section
variable{prog:Program}{w:World}{A:Around}{E:Value→Shared→Prop}{R:Result→Shared→Prop}{I S:Addr}{fp:List Addr}{ord:List Value}{St:Nat→Heap→Prop}
theorem Zmw(T:Tells prog w A.in1 I fp ord St)(hS:S∉fp)(hz:ord.length≤10000)(res:Value):∀(m i:Nat) (s:Shared) (c:Nat),i+m=ord.length→St i s.heap→s.heap.get? S=some (lstO (ord.take i).toArray c)→
  (∀h' c',(∀b x,b≠S→b≠I→s.heap.get? b=some x→h'.get? b=some x)→h'.get? S=some (lstO ord.toArray c')→R (.ok (.ret res)) {s with heap:=h'})→codeAny (model prog w) A (.builtin "list.extend.loop" ⟨[.ref S,.ref I,res],[]⟩) R s:=by
 have hSI:S≠I:=fun z=>hS (z▸T.mem)
 intro m
 induction m with
 |zero=>
  intro i s c hi st hl hR
  obtain rfl:i=ord.length:=hi
  rw[List.take_length]at hl
  refine codeAny_builtin PySem.F.entry_extend_loop ?_
  rw[Around.under_plainId PySem.F.plain_extend_loop _]
  show wpAny _ A.in1 (pyNext (.ref I) >>=_) _ _ s
  refine wpAny_bind (T.stop s _ _ st fun h' ex=>?_)
  exact wpAny_pure (hR h' c (fun b x _ hb e=>ex b x hb e) (ex S _ hSI hl))
 |succ m ih=>
  intro i s c hi st hl hR
  have hlt:i<ord.length:=by omega
  refine codeAny_builtin PySem.F.entry_extend_loop ?_
  rw[Around.under_plainId PySem.F.plain_extend_loop _]
  show wpAny _ A.in1 (pyNext (.ref I) >>=_) _ _ s
  refine wpAny_bind (T.step i s ord[i] _ _ st (by simp[hlt]) fun h1 st1 b1=>?_)
  have l1:h1.get? S=some (lstO (ord.take i).toArray c):=(b1.2 S hSI).trans hl
  have tk:(ord.take i).toArray.push ord[i]=(ord.take (i+1)).toArray:=by
   rw[List.take_add_one,List.getElem?_eq_getElem hlt]
   simp
  show wpAny _ A.in1 (updateSeq S (·.push ord[i]) >>=_) _ _ _
  refine wpAny_bind (wpAny_updateSeq l1 rfl (wpAny_pure ⟨plainId_quiet PySem.F.plain_extend_loop _,?_⟩) (by rw[List.size_toArray,List.length_take,sizeLine_eq];omega) (by show((ord.take i).toArray.push ord[i]).size≤_;rw[tk,List.size_toArray,List.length_take,sizeLine_eq];omega))
  have g2:=Heap.get?_update_self (Obj.mapSeq (·.push ord[i])) l1 rfl
  have hm:∃c',Obj.mapSeq (·.push ord[i]) (lstO (ord.take i).toArray c)=lstO (ord.take (i+1)).toArray c':=by
   rw[←tk];exact⟨_,rfl⟩
  obtain⟨c',hc'⟩:=hm
  rw[hc']at g2
  refine ih (i+1) _ c' (by omega) (T.keep _ _ _ st1 fun b hb x e=>(Heap.get?_update_other _ _ (fun z:S=b=>hS (by rw[z];exact hb))).trans e) g2 fun h3 c3 k3 g3=>?_
  exact hR h3 c3 (fun b x hb hbI e=>k3 b x hb hbI ((Heap.get?_update_other _ _ (Ne.symm hb)).trans ((b1.2 b hbI).trans e))) g3
theorem Zsp{s:Shared}{r:Addr}{Q:Bool→Shared→Prop}(hT:s.TypeIs (.ref r) "set")(h:Q false s):wpAny (model prog w) A (Builtin.List.listLengthHint (.ref r)) Q E s:=by
 unfold Builtin.List.listLengthHint
 refine wpAny_bind (wpAny_specialOf hT PySem.F.slot_set_len.lookup ?_)
 generalize hid:("set.__len__":String)=id0
 wp_delta
 rw[show splitId id0=some ("set","__len__")from by subst hid;decide+kernel]
 subst hid
 refine wpAny_bind (wpAny_isInstance (T:="set") (b:=true) hT sub_set_self ?_)
 refine wpAny_ite_split (fun z=>absurd z (by decide)) fun _=>?_
 refine wpAny_ite_split (fun _=>?_) fun z=>absurd (by decide+kernel) z
 exact wpAny_bind (wpAny_typeOf hT (wpAny_pure h))
theorem Zmx{α:Type}(f:Nat→Nat):∀(n k:Nat) (l:List α) (out:Array α),n=l.length→(pickOrder.go f n k l out).toList.Perm (out.toList++l)
 |0,k,l,out,h=>by
  have:l=[]:=List.eq_nil_of_length_eq_zero h.symm
  subst this
  unfold pickOrder.go
  simp
 |n+1,k,l,out,h=>by
  unfold pickOrder.go
  have hp:0<l.length:=by omega
  have hm:f k % l.length<l.length:=Nat.mod_lt _ hp
  rw[List.getElem?_eq_getElem hm]
  dsimp only
  refine(Zmx f n (k+1) _ _ (by rw[List.length_eraseIdx_of_lt hm];omega)).trans ?_
  rw[Array.toList_push,List.append_assoc]
  exact(Zeo l _ hm).append_left _
theorem Zo9{α:Type}(f:Nat→Nat)(xs:Array α):(pickOrder f xs).toList.Perm xs.toList:=by
 have:=Zmx f xs.size 0 xs.toList #[] (Array.length_toList).symm
 simpa[pickOrder]using this
end
end SX
namespace SX
open PySem PySem.Spec PyProof.Rows
section
variable{prog:Program}{w:World}{A:Around}{E:Value→Shared→Prop}{s:Shared}{I r T:Addr}{o:Obj}{es:Array (Int×Value)}{ep:Nat}{t:SetTable}
noncomputable def sl(t:SetTable):Nat→Nat
 |0=>0
 |i+1=>t.place.getD i 0+1
theorem Zwh{t:SetTable}(h:Rise t.place.toList){i:Nat}(hi:i≤t.place.size):SetTable.below t.place (sl t i)=i:=by
 refine Zsj (Zjq h _) ⟨hi,fun k y hk e=>?_,fun k y hk e=>?_⟩
 ·cases i with
  |zero=>omega
  |succ i=>
   have hp:i<t.place.size:=by omega
   have e2:t.place[i]? =some t.place[i]:=by simp[hp]
   have eg:sl t (i+1)=t.place[i]+1:=by unfold sl;simp[Array.getD,hp]
   rw[eg]
   by_cases z:k=i
   ·subst z;rw[e2]at e;cases e;omega
   ·have:=Zem h e e2 (by omega);omega
 ·cases i with
  |zero=>exact Nat.zero_le _
  |succ i=>
   have hp:i<t.place.size:=by omega
   have e2:t.place[i]? =some t.place[i]:=by simp[hp]
   have eg:sl t (i+1)=t.place[i]+1:=by unfold sl;simp[Array.getD,hp]
   rw[eg]
   have:=Zem h e2 e (by omega)
   omega
theorem Zj8{r I:Addr}(h:r≠I){h1 h2:Heap}(b:Heap.SameBut I h1 h2){x:Obj}(e:h1.get? r=some x):h2.get? r=some x:=(b.2 r h).trans e
theorem Zkt(hh:A.handled=none)(hr:r≠I)(hd:o.data= .set es ep t)(hf:t.fits es.size=true)(hB:By w=false)(hl:t.led=true)(hp:(!t.plain&&decide (es.size > 1))=false)(rise:Rise t.place.toList)(sz:t.place.size=es.size):
  Tells prog w A I [I,r] (es.toList.map (·.2)) (fun i h=>h.get? I=some (itO (.int (sl t i:Int) 0) i r es.size ep)∧h.get? r=some o):=by
 refine⟨by simp,fun i h h' st k=>⟨k I (by simp) _ st.1,k r (by simp) _ st.2⟩,fun i s x Q E st hx hQ=>?_,fun s Q E st hQ=>?_⟩
 ·rw[List.getElem?_map]at hx
  obtain⟨e,he,rfl⟩:=Option.map_eq_some_iff.mp hx
  rw[Array.getElem?_toList]at he
  have hi:i<es.size:=(Array.getElem?_eq_some_iff.mp he).1
  have hi':i<t.place.size:=by omega
  have e2:t.place[i]? =some t.place[i]:=by simp[hi']
  have nx:=Zhg (prog:=prog) (w:=w) (A:=A.in1) (s:=s) (slot:=sl t i) (i:=i) hB st.2 hd hf hl hp
  rw[Zwh rise (by omega),he,e2]at nx
  refine Zwf st.1 st.2 hd hf nx fun h' g b=>hQ h' ⟨?_,Zj8 hr b st.2⟩ b
  have eg:sl t (i+1)=t.place[i]+1:=by unfold sl;simp[Array.getD,hi']
  rw[eg]
  exact g
 ·have hn:(es.toList.map (·.2)).length=es.size:=by rw[List.length_map,Array.length_toList]
  rw[hn]at st
  have nx:=Zhg (prog:=prog) (w:=w) (A:=A.in1) (s:=s) (slot:=sl t es.size) (i:=es.size) hB st.2 hd hf hl hp
  rw[Zwh rise (by omega),show es[es.size]? =none by simp]at nx
  exact Zwg hh st.1 st.2 hd hf nx hQ
theorem Zmy(hh:A.handled=none)(hr:r≠I)(hd:o.data= .set es ep t)(hf:t.fits es.size=true)(hB:By w=true):
  Tells prog w A I [I,r] ((pickOrder (w.params.setOrder r ep) es).toList.map (·.2)) (fun i h=>h.get? I=some (itO (.int ((0:Nat):Int) 0) i r es.size ep)∧h.get? r=some o):=by
 refine⟨by simp,fun i h h' st k=>⟨k I (by simp) _ st.1,k r (by simp) _ st.2⟩,fun i s x Q E st hx hQ=>?_,fun s Q E st hQ=>?_⟩
 ·rw[List.getElem?_map]at hx
  obtain⟨e,he,rfl⟩:=Option.map_eq_some_iff.mp hx
  rw[Array.getElem?_toList]at he
  have nx:=Zjv (prog:=prog) (w:=w) (A:=A.in1) (s:=s) (slot:=0) (i:=i) hB st.2 hd hf
  rw[he]at nx
  exact Zwf st.1 st.2 hd hf nx fun h' g b=>hQ h' ⟨g,Zj8 hr b st.2⟩ b
 ·have nx:=Zjv (prog:=prog) (w:=w) (A:=A.in1) (s:=s) (slot:=0) (i:=((pickOrder (w.params.setOrder r ep) es).toList.map (·.2)).length) hB st.2 hd hf
  rw[List.length_map,Array.length_toList,show(pickOrder (w.params.setOrder r ep) es)[(pickOrder (w.params.setOrder r ep) es).size]? =none by simp]at nx
  rw[List.length_map,Array.length_toList]at st
  exact Zwg hh st.1 st.2 hd hf nx hQ
theorem Zku(hh:A.handled=none)(hr:r≠I)(hT:T≠I)(hd:o.data= .set es ep t)(hf:t.fits es.size=true){ps:List Nat}(hp:∀p∈ps,p<es.size):
  Tells prog w A I [I,r,T] (ps.map fun p=>(es.getD p (0,.none)).2) (fun i h=>h.get? I=some (itO (.ref T) i r es.size ep)∧h.get? r=some o∧h.get? T=some (tupO ps)):=by
 refine⟨by simp,fun i h h' st k=>⟨k I (by simp) _ st.1,k r (by simp) _ st.2.1,k T (by simp) _ st.2.2⟩,fun i s x Q E st hx hQ=>?_,fun s Q E st hQ=>?_⟩
 ·rw[List.getElem?_map]at hx
  obtain⟨p,he,rfl⟩:=Option.map_eq_some_iff.mp hx
  have lt:=hp p (List.mem_of_getElem? he)
  have e2:es[p]? =some ((es.getD p (0,.none)).1,(es.getD p (0,.none)).2):=by simp[Array.getD,lt]
  exact Zzq st.1 st.2.2 he e2 st.2.1 hd hf fun h' g b=>hQ h' ⟨g,Zj8 hr b st.2.1,Zj8 hT b st.2.2⟩ b
 ·rw[List.length_map]at st
  exact Zzr hh st.1 st.2.2 (by simp) st.2.1 hd hf hQ
end
end SX
namespace SX
open PySem PySem.Spec PyProof.Rows
section
variable{prog:Program}{w:World}{A:Around}{E:Value→Shared→Prop}{s:Shared}{I r S:Addr}{o:Obj}{ks:List Int}
theorem Zip{l:List (Int×Value)}(h:ElemsOf (intKind prog w) l):IntsAre (l.map (·.2)) (nums l):=by
 have e:nums l=(l.map (·.2)).map numOf:=by rw[List.map_map];rfl
 rw[e]
 refine intsAre_map _ fun v hv=>?_
 obtain⟨x,hx,rfl⟩:=List.mem_map.mp hv
 obtain⟨t,ht⟩:=Zjr h hx
 exact⟨_,t,ht⟩
theorem Ziq{R:Result→Shared→Prop}{fp:List Addr}{ord:List Value}{St:Nat→Heap→Prop}{res:Value}{c:Nat}(T:Tells prog w A.in1 I fp ord St)(hS:S∉fp)(hz:ord.length≤10000)(hT:s.TypeIs (.ref r) "set")(st:St 0 s.heap)(hl:s.heap.get? S=some (lstO #[] c)){f:Bool→Bool}
  (hR:∀h' c',(∀b x,b≠S→b≠I→s.heap.get? b=some x→h'.get? b=some x)→h'.get? S=some (lstO ord.toArray c')→R (.ok (.ret res)) {s with heap:=h'}):
  wpAny (model prog w) A.in1 (do
   let room←holding [.ref I] (Builtin.List.listLengthHint (.ref r))
   if f room=true then do
    rule "list.extend.makes-room"
    Builtin.List.listTouch (.ref S)
    again (.builtin "list.extend.loop" ⟨[.ref S,.ref I,res],[]⟩)
   else again (.builtin "list.extend.loop" ⟨[.ref S,.ref I,res],[]⟩))
   (fun fin s'=>match fin with| .done f=>R (.ok f) s'| .again c'=>c'.quiet=true∧codeAny (model prog w) A c' R s') (fun e s'=>R (.error e) s') s:=by
 refine wpAny_bind (wpAny_holding (Zsp hT ?_))
 refine wpAny_ite_split (fun _=>?_) (fun _=>wpAny_pure ⟨plainId_quiet PySem.F.plain_extend_loop _,Zmw T hS hz res ord.length 0 s c (by omega) st (by simpa using hl) hR⟩)
 refine wpAny_bind (wpAny_rule (wpAny_bind ?_))
 show wpAny _ _ (updateSeq S (·.push .none) >>=fun _=>updateSeq S (·.pop)) _ _ _
 refine wpAny_bind (wpAny_updateSeq hl rfl ?_)
 have l2:=Heap.get?_update_self (Obj.mapSeq (·.push Value.none)) hl rfl
 refine wpAny_updateSeq (hz:=by seq_fits) l2 rfl ?_
 have l3:=Heap.get?_update_self (Obj.mapSeq (·.pop)) l2 rfl
 have oth:∀b x,b≠S→s.heap.get? b=some x→((s.heap.update S (Obj.mapSeq (·.push Value.none))).update S (Obj.mapSeq (·.pop))).get? b=some x:=
  fun b x hb e=>(Heap.get?_update_other _ _ (Ne.symm hb)).trans ((Heap.get?_update_other _ _ (Ne.symm hb)).trans e)
 refine wpAny_pure ⟨plainId_quiet PySem.F.plain_extend_loop _,Zmw T hS hz res ord.length 0 _ _ (by omega) (T.keep _ _ _ st fun b hb x e=>oth b x (fun z=>hS (z▸hb)) e) l3 fun h' c' k g=>?_⟩
 exact hR h' c' (fun b x hb hI e=>k b x hb hI (oth b x hb e)) g
theorem Zwi{R:Result→Shared→Prop}{res:Value}{c:Nat}(hh:A.handled=none)(ho:s.heap.get? r=some o)(hO:Own prog w (By w) o ks)(hr:ks.length≤1000)(hS:S≠r)(hl:s.heap.get? S=some (lstO #[] c))
  (hR:∀h' d c' ord ks',IntsAre ord ks'→ks'.Perm ks→(∀b x,b≠S→s.heap.get? b=some x→h'.get? b=some x)→h'.get? S=some (lstO ord.toArray c')→R (.ok (.ret res)) {s with heap:=h',drawn:=d}):
  wpAny (model prog w) A.in1 (Builtin.List.listExtendWith (.ref S) (.ref r) res) (fun fin s'=>match fin with| .done f=>R (.ok f) s'| .again c'=>c'.quiet=true∧codeAny (model prog w) A c' R s') (fun e s'=>R (.error e) s') s:=by
 obtain⟨es,ep,t,hx,hd,el,pm,hf,ht,hb⟩:=hO
 have sz:es.size=ks.length:=by
  have:=pm.length_eq
  rw[List.length_map,Array.length_toList]at this
  exact this
 have psz:t.place.size=es.size:=by
  unfold SetTable.fits at hf
  simp only[Bool.and_eq_true,beq_iff_eq]at hf
  exact hf.1
 have hT:s.TypeIs (.ref r) "set":=⟨o,ho,hx.1⟩
 have hlS:S<s.heap.objs.size:=Heap.lt_size hl
 have hlr:r<s.heap.objs.size:=Heap.lt_size ho
 unfold Builtin.List.listExtendWith
 refine wpAny_bind (wpAny_typeOf (T:="set") hT ?_)
 have z1:Builtin.List.listSameRef (.ref S) (.ref r)=false:=by simp[Builtin.List.listSameRef,hS]
 have z2:(Value.type "set"==Value.type "list")=false:=by decide
 have z3:(Value.type "set"==Value.type "tuple")=false:=by decide
 simp only[z1,z2,z3,Bool.or_false,Bool.false_eq_true,if_false]
 have hh':A.in1.handled=none:=hh
 refine wpAny_bind (Zso ho hx hd hf hb (fun hc=>?_) fun hc ps d hp=>?_)
 ·have rI:r≠s.heap.objs.size:=Nat.ne_of_lt hlr
  have SI:S≠s.heap.objs.size:=Nat.ne_of_lt hlS
  have nf:S∉[s.heap.objs.size,r]:=by
   simp only[List.mem_cons,List.not_mem_nil,or_false,not_or]
   exact⟨SI,hS⟩
  have g0:∀x,(s.heap.push x).get? s.heap.objs.size=some x→True:=fun _ _=>trivial
  have old:∀b x,s.heap.get? b=some x→b≠s.heap.objs.size:=fun b x e=>Nat.ne_of_lt (Heap.lt_size e)
  cases hB:By w with
  |false=>
   have hl':t.led=true:=by rw[ht.led,hB];rfl
   have hp:(!t.plain&&decide (es.size > 1))=false:=by rw[hB]at hc;simpa using hc
   have rise:Rise t.place.toList:=by
    cases hpl:t.plain with
    |true=>exact ht.rise hpl
    |false=>
     rw[hpl]at hp
     have:¬es.size > 1:=by simpa using hp
     unfold Rise
     have hle:t.place.toList.length≤1:=by rw[Array.length_toList];omega
     match hq:t.place.toList,hle with
     | [],_=>exact List.Pairwise.nil
     | [a],_=>exact List.pairwise_singleton _ _
   refine Ziq (Zkt hh' rI hd hf hB hl' hp rise psz) nf (by rw[List.length_map,Array.length_toList];omega) ⟨o,Heap.get?_push_of_some _ ho,hx.1⟩ ⟨Heap.get?_push_size _ rfl,Heap.get?_push_of_some _ ho⟩ (Heap.get?_push_of_some _ hl) (f:=fun b=>b||_) fun h' c' k g=>?_
   exact hR h' s.drawn c' _ _ (Zip el) pm (fun b x hb e=>k b x hb (old b x e) (Heap.get?_push_of_some _ e)) g
  |true=>
   have pp:=Zo9 (w.params.setOrder r ep) es
   refine Ziq (Zmy hh' rI hd hf hB) nf (by rw[List.length_map,pp.length_eq,Array.length_toList];omega) ⟨o,Heap.get?_push_of_some _ ho,hx.1⟩ ⟨Heap.get?_push_size _ rfl,Heap.get?_push_of_some _ ho⟩ (Heap.get?_push_of_some _ hl) (f:=fun b=>b||_) fun h' c' k g=>?_
   exact hR h' s.drawn c' _ _ (Zip (el.perm pp)) ((pp.map _).trans pm) (fun b x hb e=>k b x hb (old b x e) (Heap.get?_push_of_some _ e)) g
 ·have pm0:∀p∈ps,p<es.size:=fun p hq=>List.mem_range.mp (hp.mem_iff.mp hq)
  have rI:r≠s.heap.objs.size+1:=Nat.ne_of_lt (Nat.lt_succ_of_lt hlr)
  have TI:s.heap.objs.size≠s.heap.objs.size+1:=Nat.ne_of_lt (Nat.lt_succ_self _)
  have nf:S∉[s.heap.objs.size+1,r,s.heap.objs.size]:=by
   simp only[List.mem_cons,List.not_mem_nil,or_false,not_or]
   exact⟨Nat.ne_of_lt (Nat.lt_succ_of_lt hlS),hS,Nat.ne_of_lt hlS⟩
  have up:∀b x,s.heap.get? b=some x→((s.heap.push (tupO ps)).push (itO (.ref s.heap.objs.size) 0 r es.size ep)).get? b=some x:=fun b x e=>Heap.get?_push_of_some _ (Heap.get?_push_of_some _ e)
  have sz2:(s.heap.push (tupO ps)).objs.size=s.heap.objs.size+1:=Heap.size_push _ _
  have gI:((s.heap.push (tupO ps)).push (itO (.ref s.heap.objs.size) 0 r es.size ep)).get? (s.heap.objs.size+1)=some (itO (.ref s.heap.objs.size) 0 r es.size ep):=by
   rw[←sz2];exact Heap.get?_push_size _ rfl
  have gT:((s.heap.push (tupO ps)).push (itO (.ref s.heap.objs.size) 0 r es.size ep)).get? s.heap.objs.size=some (tupO ps):=Heap.get?_push_of_some _ (Heap.get?_push_size _ rfl)
  have pl:(ps.map fun p=>es.getD p (0,Value.none)).Perm es.toList:=by
   refine(hp.map _).trans ?_
   have:(List.range es.size).map (fun p=>es.getD p (0,Value.none))=es.toList:=by
    apply List.ext_getElem?
    intro i
    rw[List.getElem?_map]
    by_cases hi:i<es.size
    ·rw[List.getElem?_range hi,Array.getElem?_toList]
     simp[Array.getD,hi]
    ·rw[List.getElem?_eq_none (by simpa using hi),List.getElem?_eq_none (by simpa using hi)];rfl
   rw[this]
  have eo:(ps.map fun p=>(es.getD p (0,Value.none)).2)=(ps.map fun p=>es.getD p (0,Value.none)).map (·.2):=by rw[List.map_map];rfl
  refine Ziq (s:={s with heap:=(s.heap.push (tupO ps)).push (itO (.ref s.heap.objs.size) 0 r es.size ep),drawn:=d}) (Zku hh' rI TI hd hf pm0) nf (by rw[List.length_map,hp.length_eq,List.length_range];omega) ⟨o,up _ _ ho,hx.1⟩ ⟨gI,up _ _ ho,gT⟩ (up _ _ hl) (f:=fun b=>b||_) fun h' c' k g=>?_
  rw[eo]at g
  exact hR h' d c' _ _ (Zip (el.perm pl)) ((pl.map _).trans pm) (fun b x hb e=>k b x hb (Nat.ne_of_lt (Nat.lt_succ_of_lt (Heap.lt_size e))) (up b x e)) g
end
end SX
namespace SX
open PySem PySem.Spec PyProof.Rows
section
variable{prog:Program}{w:World}{A:Around}{E:Value→Shared→Prop}{s:Shared}{r:Addr}{o:Obj}{ks:List Int}
theorem Zkv{Q:List Value→Shared→Prop}(hh:A.handled=none)(ho:s.heap.get? r=some o)(hO:Own prog w (By w) o ks)(hr:ks.length≤1000)
  (h:∀vs ks' h' d,IntsAre vs ks'→ks'.Perm ks→(∀b x,s.heap.get? b=some x→h'.get? b=some x)→s.heap.objs.size≤h'.objs.size→Q vs {s with heap:=h',drawn:=d}):wpAny (model prog w) A (collect (.ref r)) Q E s:=by
 have hlr:r<s.heap.objs.size:=Heap.lt_size ho
 have nS:s.heap.objs.size≠r:=Nat.ne_of_gt hlr
 unfold collect
 refine wpAny_bind (wpAny_runValue (codeAny_builtin PySem.F.entry_proto_collect ?_))
 rw[Around.under_plainId PySem.F.plain_proto_collect _]
 show wpAny _ A.in1 (newList [] >>=fun l=>again (.builtin "list.__iadd__" ⟨[l,.ref r],[]⟩)) _ _ s
 refine wpAny_bind (wpAny_newObj_type ?_)
 refine wpAny_pure ⟨plainId_quiet PySem.F.plain_list_iadd _,codeAny_builtin PySem.F.entry_list_iadd ?_⟩
 rw[Around.under_plainId PySem.F.plain_list_iadd _]
 show wpAny _ A.in1 (Builtin.List.listExtendWith (.ref s.heap.objs.size) (.ref r) (.ref s.heap.objs.size)) _ _ _
 refine Zwi (R:=fun rr s'=>match rr with
  | .ok (.ret v)=>wpAny (model prog w) A (match v with
   | .ref a=>(load a >>=fun x=>match x.data with
    | .seq xs _=>pure xs.toList
    |_=>unsupported "internal:collect")
   |_=>unsupported "internal:collect") Q E s'
  | .ok _=>False
  | .error e=>E e s') (s:={s with heap:=s.heap.push (lstO #[] 0)}) (c:=0) hh (Heap.get?_push_of_some _ ho) hO hr nS (Heap.get?_push_size _ rfl) fun h' d c' ord ks' hI hp hk g=>?_
 show wpAny _ A (load s.heap.objs.size >>=_) _ _ _
 refine wpAny_bind (wpAny_load g ?_)
 refine wpAny_pure ?_
 have e:ord.toArray.toList=ord:=by simp
 show Q ord.toArray.toList _
 rw[e]
 exact h ord ks' h' d hI hp (fun b x e=>hk b x (Nat.ne_of_lt (Heap.lt_size e)) (Heap.get?_push_of_some _ e)) (Nat.le_of_lt (Heap.lt_size g))
theorem Zsq{Q:Value→Shared→Prop}(hh:A.handled=none)(ho:s.heap.get? r=some o)(hO:Own prog w (By w) o ks)(hr:ks.length<64)
  (h:∀h' d L out c ns',(∀b x,s.heap.get? b=some x→h'.get? b=some x)→s.heap.objs.size≤L→h'.get? L=some (lstO out c)→IntsAre out.toList ns'→ns'.Perm ks→ns'.Pairwise (· ≤ ·)→Q (.ref L) {s with heap:=h',drawn:=d}):
  wpAny (model prog w) A (call (.builtin "sorted") [.ref r]) Q E s:=by
 refine Calls.call_function_entry kind_sorted plain_sorted entry_sorted (args_sorted1 _) ?_
 unfold Builtin.«sorted»
 refine wpAny_bind (m:=checkCount "sorted" 1 1 _) (wpAny_pure ?_)
 refine wpAny_bind (Zkv (A:=A.in1) hh ho hO (by omega) fun vs ks' h1 d hI hp hk ge=>?_)
 have hl:vs.length<64:=by rw[IntsAre.length hI,hp.length_eq];exact hr
 refine wpAny_bind (wpAny_newList ?_ (by rw[sizeLine_eq];omega))
 have gL:(h1.push (seqObj "list" vs.toArray 0)).get? h1.objs.size=some (seqObj "list" vs.toArray 0):=Heap.get?_push_size _ rfl
 have ltL:h1.objs.size<(h1.push (seqObj "list" vs.toArray 0)).objs.size:=Heap.lt_size gL
 refine wpAny_bind (wpAny_holding (wpAny_call_entry slot_list_sort ⟨_,gL,rfl⟩ entry_list_sort (list_sort_tree (s:={s with heap:=h1.push (seqObj "list" vs.toArray 0),drawn:=d}) gL hI hl fun out ns' a1 a2 a3=>⟨_,rfl,?_⟩) (args_list_sort _)))
 obtain⟨c,hc⟩:=sortedHeap_at (out:=out) gL
 refine wpAny_pure ⟨_,rfl,h _ d _ out c ns' (fun b x e=>?_) ge hc a1 (a2.trans hp) a3⟩
 have e1:=hk b x e
 have lt1:b<h1.objs.size:=Heap.lt_size e1
 rw[sortedHeap_old (Nat.ne_of_lt lt1) (Nat.lt_trans lt1 ltL)]
 exact Heap.get?_push_of_some _ e1
end
end SX
namespace SX
open PySem PySem.Spec PyProof.Rows
noncomputable def srt(ns:List Int):List Int:=(dd (fun i=>ns.getD i 0) ns.length).mergeSort fun a b=>decide (a≤b)
theorem Zf4(ns:List Int):(srt ns).Perm (dd (fun i=>ns.getD i 0) ns.length):=List.mergeSort_perm _ _
theorem Zqh(ns:List Int):(srt ns).Pairwise (· ≤ ·):=by
 have:=List.pairwise_mergeSort (le:=fun a b:Int=>decide (a≤b)) (fun a b c h1 h2=>by simp at*;omega) (fun a b=>by simp;omega) (dd (fun i=>ns.getD i 0) ns.length)
 exact this.imp fun h=>by simpa using h
theorem Zsr(ns:List Int):(srt ns).length≤ns.length:=by rw[(Zf4 ns).length_eq];exact Zjs _ _
theorem Zss{ns:List Int}(h:ns.Nodup):(dd (fun i=>ns.getD i 0) ns.length).Perm ns:=by
 rw[List.perm_ext_iff_of_nodup (Zjt _ _) h]
 intro k
 rw[Zqf]
 constructor
 ·rintro⟨j,hj,e⟩
  rw[←e]
  simp[hj]
 ·intro hk
  obtain⟨j,hj,e⟩:=List.getElem_of_mem hk
  exact⟨j,hj,by simp[hj,e]⟩
theorem Zpa{ns:List Int}(h:ns.Pairwise (· < ·)):srt ns=ns:=
 PySem.W.lks_uniq ((Zf4 ns).trans (Zss (h.imp fun z=>by omega))) (Zqh ns) (h.imp fun z=>by omega)
end SX
namespace L2
open PySem PySem.Spec PyProof.Rows SX
section
variable{X:Cx}
theorem Zhh:∀{ns:List Int} {vs:List Value},IntsAre vs ns→Vals (ns.map V.int) vs
 |_,_,.nil=>.nil
 |_,_,.cons n t h=>.cons ⟨t,rfl⟩ (Zhh h)
theorem Zfi:∀{ns:List Int} {vs:List Value},Vals (ns.map V.int) vs→IntsAre vs ns
 | [],_,h=>by cases h;exact .nil
 |n::ns,_,h=>by
  cases h with
  |cons r t=>
   obtain⟨tk,rfl⟩:=r
   exact .cons n tk (Zfi t)
theorem Inv.drawnAt{pins:List (Addr×Obj)}{σ:St}{H:Hp}{s:Shared}(I:Inv X pins σ H s)(d:_):Inv X pins σ H {s with drawn:=d}:=
 ⟨I.ok,I.os,I.bare,I.base,I.loc,I.cell,I.free,I.freeC,I.pin,I.hok,I.len⟩
noncomputable def rSS(K:PySem.W.Frag):List V→Hp→VK→Prop:=fun xs H Q=>∃l ns,xs=[.ref l]∧SqL K H l (ns.map V.int)∧ns.length<64∧∀q,H q=none→Q (.ref q) (upd H q (.lst ((srt ns).map V.int)))
theorem Zir:bootBuiltins "sorted"=some (.builtin "sorted"):=by kernel_rfl
theorem Zpb:bootBuiltins "set"=some (.type "set"):=by kernel_rfl
theorem Zwj{a:Expr}{t:TA}{p1 p2 q1 q2:Pos}(hc:X.calm=true)(h1:X.mg "sorted"=none)(h2:X.mg "set"=none)(ha:PA X [a] t)(g1:Gl X "sorted")(g2:Gl X "set")
  (he1:starEach [.Call (.Name "set" q1) [a] [] q2] X.env=(false,eval (.Call (.Name "set" q1) [a] [] q2) X.env)::starEach [] X.env) (hp1:(backTo p2 (starEach [] X.env)).any (·.1)=false)
  (he2:starEach [a] X.env=(false,eval a X.env)::starEach [] X.env) (hp2:(backTo q2 (starEach [] X.env)).any (·.1)=false):
  PE X (.Call (.Name "sorted" p1) [.Call (.Name "set" q1) [a] [] q2] [] p2) (tCB (rSS X.K) t):=by
 intro pins s σ H Q I h
 refine wpAny_Call_Name_kw (Zd4 I g1 h1 Zir ?_)
 refine PyProof.Rows.callWith_builtin1 ?_ he1 hp1
 rw[he1]
 show wpAny _ _ (spliced ((false,eval (.Call (.Name "set" q1) [a] [] q2) X.env)::backTo p2 (starEach [] X.env))) _ _ s
 refine Calls.spliced_cons (wpAny_Call_Name_kw (Zd4 I g2 h2 Zpb ?_))
 refine PyProof.Rows.callWith_type1 (thn (ha q2 pins s σ H _ I h) fun us s1 ⟨vs,H1,I1,r1,z1⟩=>?_) he2 hp2
 obtain⟨l,ns,rfl,hl,hz,q⟩:=z1
 obtain⟨u,rfl,ru⟩:=Zey r1
 cases ru
 obtain⟨its,rv,⟨o,n,ho,hcl,_,hd⟩,_⟩:=I1.list hl
 have hI:=Zfi rv
 have li:its.length=ns.length:=IntsAre.length hI
 have hh:=I1.ok.hd hc
 refine Zsn (its:=its.toArray) (ns:=ns) hh ⟨o,ho,hcl,n,hd⟩ (by simpa using hI) (by rw[List.size_toArray];unfold scanBound;omega) fun h' tk o' ho' hO hk=>?_
 rw[List.size_toArray,li]at hO
 show wpAny _ _ (spliced []) _ _ _
 refine Calls.spliced_nil ?_
 refine Zsq (s:={s1 with heap:=h',toks:=tk}) hh ho' hO (by have:=Zjs (fun i=>ns.getD i 0) ns.length;omega) fun h2 d L out c ns' hk2 ge gL hI2 hp hw=>?_
 have e:ns'=srt ns:=PySem.W.lks_uniq (hp.trans (Zf4 ns).symm) hw (Zqh ns)
 subst e
 have lo:s1.heap.objs.size<h'.objs.size:=Heap.lt_size ho'
 have geL:s1.heap.objs.size≤L:=Nat.le_trans (Nat.le_of_lt lo) ge
 have keep:∀b x,s1.heap.get? b=some x→h2.get? b=some x:=fun b x e=>hk2 b x (hk b x (Heap.lt_size e) e)
 have ok:Zba X.prog X.w (upd H1 L (.lst ((srt ns).map V.int))) h2 L (.lst ((srt ns).map V.int)):=by
  refine⟨?_,out.toList,c,Zhh hI2,by simpa using gL⟩
  rw[List.length_map,sizeLine_eq]
  have:=Zsr ns
  omega
 exact⟨.ref L,_,(I1.laid (t':=tk) keep geL ok).drawnAt d,rfl,q L (I1.hok.fresh geL)⟩
end
end L2
namespace DL
open PySem PySem.Spec PyProof.Rows L2 SX
variable{K:PySem.W.Frag}
@[simp] noncomputable def ints?:List D→Option (List Int)
 | []=>some []
 | .int i::r=>(ints? r).bind fun l=>some (i::l)
 |_=>none
theorem Zjw:∀ns:List Int,ints? (ns.map D.int)=some ns
 | []=>rfl
 |n::ns=>by rw[List.map_cons,ints?,Zjw ns];rfl
theorem Zmz:∀{xs:List D} {ns:List Int},ints? xs=some ns→xs=ns.map D.int
 | [],_,h=>by cases h;rfl
 |x::xs,ns,h=>by
  unfold ints? at h
  split at h
  ·rename_i e;cases e
  ·rename_i i r e
   cases e
   obtain⟨l,h1,h2⟩:=Option.bind_eq_some_iff.mp h
   cases h2
   rw[Zmz h1];rfl
  ·cases h
theorem Zhi{F:Hp}:∀{ns:List Int} {vs:List V},Reps K F (ns.map D.int) vs→vs=ns.map V.int
 | [],_,h=>by cases h;rfl
 |n::ns,_,h=>by
  cases h with
  |cons h t=>cases h;rw[Zhi t];rfl
theorem Zhj{F:Hp}:∀(ns:List Int),Reps K F (ns.map D.int) (ns.map V.int)
 | []=>.nil
 |n::ns=>.cons (.int n) (Zhj ns)
noncomputable def srtD:List D→Option SV
 | [.lst xs]=>(ints? xs).bind fun ns=>if ns.length<64 then some (.ol ((srt ns).map D.int))else none
 |_=>none
theorem Zst{ns:List Int}(h:ns.length<64):srtD [.lst (ns.map D.int)]=some (.ol ((srt ns).map D.int)):=by
 show(ints? (ns.map D.int)).bind _=_
 rw[Zjw]
 show(if ns.length<64 then _ else _)=_
 rw[if_pos h]
section
variable{Z:Ent K}{H:Hp}{σ:L2.St}{Q:VK}{E:Ends}
theorem Zzs:Zft Z (rSS K) srtD:=by
 intro F H σ δ own vs ds sv Q s r e k
 unfold srtD at e
 split at e
 ·obtain⟨ns,e1,e2⟩:=Option.bind_eq_some_iff.mp e
  split at e2
  ·rename_i hz
   cases e2
   have:=Zmz e1
   subst this
   cases r with
   |cons h t=>
    cases t
    obtain⟨a,us,rfl,ha,ru⟩:=h.lst s.le
    have eu:=Zhi ru
    subst eu
    exact⟨a,ns,rfl,ha,hz,fun q hq=>k.lst s (Zhj _) hq⟩
  ·cases e2
 ·cases e
end
section
variable{X:Cx}{Z:Ent X.K}{a b c:Expr}{fa fb fc:FE}{pos:Pos}
theorem Zzt{p1 q1 q2:Pos}(hc:X.calm=true)(h1:X.mg "sorted"=none)(h2:X.mg "set"=none)(ha:PE X a (Zb Z fa))(g1:Gl X "sorted":=by rfl)(g2:Gl X "set":=by rfl)
  (he1:starEach [.Call (.Name "set" q1) [a] [] q2] X.env=(false,eval (.Call (.Name "set" q1) [a] [] q2) X.env)::starEach [] X.env:=by rfl) (hp1:(backTo pos (starEach [] X.env)).any (·.1)=false:=by rfl)
  (he2:starEach [a] X.env=(false,eval a X.env)::starEach [] X.env:=by rfl) (hp2:(backTo q2 (starEach [] X.env)).any (·.1)=false:=by rfl):
  PE X (.Call (.Name "sorted" p1) [.Call (.Name "set" q1) [a] [] q2] [] pos) (Zb Z (Zbk srtD (Zd fa Zh))):=
 (Zwj hc h1 h2 (Zm ha Za7 he2) g1 g2 he1 hp1 he2 hp2).imp fun _ _ _ h=>Zi9 Zzs h
end
end DL
namespace My
open DL PySem
theorem Zae{n:Nat}(h:n≤16777216):n≤PySem.sizeLine:=h
theorem Zbe{n:Nat}(h:n<16777216):n<PySem.sizeLine:=h
noncomputable abbrev LET:Str:="ABCDEFGHIJKLMNOPQRSTUVWXYZabcdefghijklmnopqrstuvwxyz"
theorem Zcr(a b:Str):(a++b).length=a.length+b.length:=by
 show(a.cps++b.cps).size=a.cps.size+b.cps.size
 simp
theorem Zzu(c:Nat):(⟨#[c]⟩:Str).length=1:=rfl
theorem Zsu(ns:List Int)(lo hi:Option Int):∃ms:List Int,cutD (ns.map D.int) lo hi=ms.map D.int∧ms.length≤ns.length:=by
 unfold cutD
 refine⟨(ns.drop _).take _,by rw[List.map_take,List.map_drop],?_⟩
 rw[List.length_take,List.length_drop];omega
noncomputable def cat:List Str→Str
 | []=>""
 |x::r=>x++cat r
theorem Zfj{f:D→D→Option Bool}:∀xs:List D,(∀x∈xs,f x x=some true)→Zkm f xs xs=some true
 | [],_=>rfl
 |x::r,h=>by simp[h x List.mem_cons_self,Zfj r fun y hy=>h y (List.mem_cons_of_mem _ hy)]
end My
namespace My
open DL PySem StrLaws Builtin.Str
noncomputable def gap(n:Nat):Nat→List Nat→Prop
 |_,[]=>True
 |a,p::r=>a≤p∧gap n (p+n) r
theorem Zjx{n:Nat}:∀{a:Nat} {P:List Nat},gap n a P→∀i∈P,a≤i
 |_,[],_,i,h=>nomatch h
 |a,p::r,g,i,h=>by
  rcases List.mem_cons.mp h with e|e
  ·rw[e];exact g.1
  ·have:=Zjx g.2 i e
   have:=g.1
   omega
theorem Zm0(s sub:Str)(hi limit:Nat)(hn:1≤sub.length):∀(m a:Nat) (found:Array Nat) (free:Nat) (P:List Nat),gap sub.length free P→(∀i∈P,a≤i∧i<a+m)→
  (∀i,a≤i→((free≤i∧At s sub hi i)↔i∈P))→
  (forIn (List.range' a m) (found,free) (occBody s sub hi limit)).run.fst.toList=found.toList++P.take (limit- found.size)
 |0,a,found,free,P,g,hb,hm=>by
  have:P=[]:=by
   cases P with
   |nil=>rfl
   |cons p r=>have:=hb p List.mem_cons_self;omega
  subst this
  simp
 |m+1,a,found,free,P,g,hb,hm=>by
  rw[List.range'_succ,List.forIn_cons]
  unfold occBody
  by_cases hl:found.size<limit
  ·by_cases ha:a∈P
   ·obtain⟨h1,h2,h3⟩:=(hm a (Nat.le_refl _)).mpr ha
    rw[if_pos ⟨⟨⟨hl,h1⟩,h2⟩,h3⟩]
    obtain⟨P',rfl⟩:∃P',P=a::P':=by
     cases P with
     |nil=>cases ha
     |cons p r=>
      rcases List.mem_cons.mp ha with e|e
      ·exact⟨r,by rw[e]⟩
      ·have:=Zjx g.2 a e
       have:=(hb p List.mem_cons_self).1
       omega
    have ih:=Zm0 s sub hi limit hn m (a+1) (found.push a) (a+sub.length) P' g.2 (fun i hi'=>by
      have z1:=Zjx g.2 i hi'
      have z2:=(hb i (List.mem_cons_of_mem _ hi')).2
      omega) (fun i hi'=>by
      constructor
      ·rintro⟨z1,z2⟩
       have:=(hm i (by omega)).mp ⟨by omega,z2⟩
       rcases List.mem_cons.mp this with e|e
       ·omega
       ·exact e
      ·intro z
       have z1:=Zjx g.2 i z
       exact⟨z1,((hm i (by omega)).mpr (List.mem_cons_of_mem _ z)).2⟩)
    refine Eq.trans ih ?_
    rw[Array.toList_push,Array.size_push,show limit- found.size=(limit- (found.size+1))+1 by omega,List.take_succ_cons,List.append_assoc]
    rfl
   ·rw[if_neg fun z=>ha ((hm a (Nat.le_refl _)).mp ⟨z.1.1.2,z.1.2,z.2⟩)]
    refine Zm0 s sub hi limit hn m (a+1) found free P g (fun i hi'=>?_) (fun i hi'=>hm i (by omega))
    have z:=hb i hi'
    have:i≠a:=fun e=>ha (by rw[←e];exact hi')
    omega
  ·rw[if_neg fun z=>hl z.1.1.1]
   have e0:limit- found.size=0:=by omega
   have ih:∀(l:List Nat) (st:Array Nat×Nat),¬st.fst.size<limit→(forIn l st (occBody s sub hi limit)).run.fst=st.fst:=by
    intro l
    induction l with
    |nil=>intro st _;rfl
    |cons x l ih=>
     intro st hst
     rw[List.forIn_cons]
     unfold occBody
     rw[if_neg fun z=>hst z.1.1.1]
     exact ih _ hst
   have:=ih (List.range' (a+1) m) (found,free) hl
   refine Eq.trans (congrArg Array.toList this) ?_
   rw[e0];simp
theorem Zwk(x y:Str)(limit:Nat)(P:List Nat)(hn:1≤y.length)(g:gap y.length 0 P)(hm:∀i,At x y x.length i↔i∈P):occurrences x y 0 x.length limit=P.take limit:=by
 rw[occ_eq]
 have:=Zm0 x y x.length limit hn (x.length+1- 0) 0 #[] 0 P g (fun i hi=>by
  have:=((hm i).mpr hi).1
  omega) (fun i _=>by rw[←hm i];simp)
 simpa using this
noncomputable def jl(y:List Nat):List (List Nat)→List Nat
 | []=>[]
 | [p]=>p
 |p::q::r=>p++y++jl y (q::r)
noncomputable def pos(n:Nat):Nat→List (List Nat)→List Nat
 |_,[]=>[]
 |_,[_]=>[]
 |a,p::q::r=>(a+p.length)::pos n (a+p.length+n) (q::r)
theorem Zm1(n:Nat):∀(a:Nat) (ps:List (List Nat)),gap n a (pos n a ps)
 |_,[]=>True.intro
 |_,[_]=>True.intro
 |a,p::q::r=>⟨Nat.le_add_right _ _,Zm1 n _ (q::r)⟩
theorem c_at{y:List Nat}{c o:Nat}(ho:∀j,y[j]? =some c→j=o):∀(ps:List (List Nat)) (a j:Nat),(∀p∈ps,c∉p)→(jl y ps)[j]? =some c→∃i∈pos y.length a ps,a+j=i+o
 | [],a,j,_,e=>by simp[jl]at e
 | [p],a,j,hp,e=>absurd (List.mem_of_getElem? e) (hp p List.mem_cons_self)
 |p::q::r,a,j,hp,e=>by
  have e:(p++y++jl y (q::r))[j]? =some c:=e
  by_cases h1:j<p.length
  ·rw[List.append_assoc,List.getElem?_append_left h1]at e
   exact absurd (List.mem_of_getElem? e) (hp p List.mem_cons_self)
  ·by_cases h2:j<p.length+y.length
   ·rw[List.append_assoc,List.getElem?_append_right (by omega),List.getElem?_append_left (by omega)]at e
    have:=ho _ e
    exact⟨a+p.length,List.mem_cons_self,by omega⟩
   ·rw[List.getElem?_append_right (by rw[List.length_append];omega),List.length_append]at e
    obtain⟨i,hi,ei⟩:=c_at ho (q::r) (a+p.length+y.length) _ (fun z hz=>hp z (List.mem_cons_of_mem _ hz)) e
    exact⟨i,List.mem_cons_of_mem _ hi,by omega⟩
theorem Zqi{y:List Nat}:∀(ps:List (List Nat)) (a i:Nat),i∈pos y.length a ps→a≤i∧i- a+y.length≤(jl y ps).length∧((jl y ps).drop (i- a)).take y.length=y
 | [],_,_,h=>nomatch h
 | [_],_,_,h=>nomatch h
 |p::q::r,a,i,h=>by
  show a≤i∧i- a+y.length≤(p++y++jl y (q::r)).length∧((p++y++jl y (q::r)).drop (i- a)).take y.length=y
  rcases List.mem_cons.mp h with e|e
  ·subst e
   rw[List.length_append,List.length_append,show a+p.length- a=p.length by omega]
   refine⟨by omega,by omega,?_⟩
   rw[List.append_assoc,List.drop_left,List.take_left]
  ·obtain⟨z1,z2,z3⟩:=Zqi (q::r) (a+p.length+y.length) i e
   rw[List.length_append,List.length_append]
   refine⟨by omega,by omega,?_⟩
   rw[show i- a=(p++y).length+(i- (a+p.length+y.length)) by rw[List.length_append];omega,←List.drop_drop,List.drop_left]
   exact z3
theorem Zhk(y:Str):∀ps:List Str,(Str.join y ps).cps.toList=jl y.cps.toList (ps.map fun p=>p.cps.toList)
 | []=>rfl
 | [p]=>rfl
 |p::q::r=>by
  show(p++y++Str.join y (q::r)).cps.toList=p.cps.toList++y.cps.toList++jl y.cps.toList ((q::r).map fun p=>p.cps.toList)
  rw[←Zhk y (q::r)]
  simp[Str.cps_append]
theorem Za1(x:Str):x.cps.toList.length=x.length:=by simp[Str.length]
structure Sep(y:Str)(c o:Nat):Prop where
 at':y.cps.toList[o]? =some c
 one:∀j,y.cps.toList[j]? =some c→j=o
theorem Sep.pos{y:Str}{c o:Nat}(S:Sep y c o):1≤y.length:=by
 have:=(List.getElem?_eq_some_iff.mp S.at').1
 rw[Za1]at this;omega
theorem Zwl{y:Str}{c o:Nat}(S:Sep y c o)(ps:List Str)(hp:∀p∈ps,c∉p.cps.toList)(i:Nat):At (Str.join y ps) y (Str.join y ps).length i↔i∈pos y.length 0 (ps.map fun p=>p.cps.toList):=by
 have hL:=Zhk y ps
 have hy:=Za1 y
 constructor
 ·rintro⟨h1,h2⟩
  rw[subAt_eq]at h2
  have h2:=eq_of_beq h2
  have hc:(jl y.cps.toList (ps.map fun p=>p.cps.toList))[i+o]? =some c:=by
   have z:=S.at'
   rw[←h2,List.getElem?_take]at z
   split at z
   ·rw[List.getElem?_drop]at z
    rw[←hL];exact z
   ·cases z
  obtain⟨j,hj,e⟩:=c_at S.one (ps.map fun p=>p.cps.toList) 0 (i+o) (fun q hq=>by
   obtain⟨p,h,rfl⟩:=List.mem_map.mp hq
   exact hp p h) hc
  have:i=j:=by omega
  rw[this,←hy];exact hj
 ·intro h
  rw[←hy]at h
  obtain⟨z1,z2,z3⟩:=Zqi _ 0 i h
  rw[←hL]at z2 z3
  have hz:=Za1 (Str.join y ps)
  refine⟨by omega,?_⟩
  rw[subAt_eq,←hy]
  simpa using z3
theorem Zd1{y:Str}{c o:Nat}(S:Sep y c o)(ps:List Str)(hp:∀p∈ps,c∉p.cps.toList)(limit:Nat):
  occurrences (Str.join y ps) y 0 (Str.join y ps).length limit=(pos y.length 0 (ps.map fun p=>p.cps.toList)).take limit:=
 Zwk _ _ _ _ S.pos (Zm1 _ _ _) (Zwl S ps hp)
theorem Zjy(x:Str)(l:List Nat)(i j:Nat)(h:(x.cps.toList.drop i).take (j- i)=l):strSub x i j=⟨l.toArray⟩:=by
 apply Str.ext'
 apply Array.toList_inj.mp
 rw[strSub_toList,h]
theorem Zpc{y:Str}{c o:Nat}(S:Sep y c o)(p:Str)(hp:c∉p.cps.toList):Txt.partition p y=(p,Str.empty,Str.empty):=by
 have h1:=Zd1 S [p] (fun q hq=>by rw[List.mem_singleton.mp hq];exact hp) 1
 unfold Txt.partition
 rw[show Str.join y [p]=p from rfl]at h1
 rw[h1];rfl
theorem Zpd{y:Str}{c o:Nat}(S:Sep y c o)(p q:Str)(hp:c∉p.cps.toList)(hq:c∉q.cps.toList):Txt.partition (p++y++q) y=(p,y,q):=by
 have h1:=Zd1 S [p,q] (fun z hz=>by
  rcases List.mem_cons.mp hz with e|e
  ·rw[e];exact hp
  ·rw[List.mem_singleton.mp e];exact hq) 1
 rw[show Str.join y [p,q]=p++y++q from rfl]at h1
 have e:(pos y.length 0 ([p,q].map fun p=>p.cps.toList)).take 1=[p.length]:=by
  show[0+p.cps.toList.length]=[p.length]
  rw[Za1,Nat.zero_add]
 rw[e]at h1
 have eL:(p++y++q).cps.toList=p.cps.toList++y.cps.toList++q.cps.toList:=by simp[Str.cps_append]
 have hl:(p++y++q).length=p.length+y.length+q.length:=by rw[Zcr,Zcr]
 unfold Txt.partition
 rw[h1]
 have a1:=Zjy (p++y++q) p.cps.toList 0 p.length (by rw[List.drop_zero,Nat.sub_zero,eL,List.append_assoc,←Za1 p,List.take_left])
 have a2:=Zjy (p++y++q) q.cps.toList (p.length+y.length) (p++y++q).length (by
  rw[eL,hl,show p.length+y.length=(p.cps.toList++y.cps.toList).length by rw[List.length_append,Za1,Za1],List.drop_left]
  exact List.take_of_length_le (by rw[Za1];omega))
 show(strSub (p++y++q) 0 p.length,y,strSub (p++y++q) (p.length+y.length) (p++y++q).length)=(p,y,q)
 rw[a1,a2]
end My
namespace My
open DL PySem
theorem Zas{tg:FG}{body:FS}{d:D}{ds:List D}{δ δ1 δ2:DSt}(h1:tg.run d δ=some δ1)(h2:body δ1=some (.nx δ2)):forD tg body (d::ds) δ=forD tg body ds δ2:=by
 show(tg.run d δ).bind _=_
 rw[h1,Option.bind_some,h2,Option.bind_some]
theorem Zm2{tg:FG}{body:FS}{d:D}{ds:List D}{δ δ1:DSt}{sv:SV}(h1:tg.run d δ=some δ1)(h2:body δ1=some (.rt sv)):forD tg body (d::ds) δ=some (.rt sv):=by
 show(tg.run d δ).bind _=_
 rw[h1,Option.bind_some,h2,Option.bind_some]
theorem Zm3{t:FT}{b:FS}{n:Nat}{δ δ1 δ2:DSt}(h1:t δ=some (true,δ1))(h2:b δ1=some (.nx δ2)):Zb1 t b (n+1) δ=Zb1 t b n δ2:=by
 show(t δ).bind _=_
 rw[h1,Option.bind_some]
 show(if true=true then(b δ1).bind _ else _)=_
 rw[if_pos rfl,h2,Option.bind_some]
theorem Zkw{t:FT}{b:FS}{n:Nat}{δ δ1:DSt}(h1:t δ=some (false,δ1)):Zb1 t b (n+1) δ=some (.nx δ1):=by
 show(t δ).bind _=_
 rw[h1,Option.bind_some]
 rfl
noncomputable abbrev S(l:List Nat):Str:=⟨l.toArray⟩
theorem Zpe(l:List Nat):(S l).length=l.length:=by show l.toArray.size=_;simp
theorem Zzv{a b:List Nat}(h:S a=S b):a=b:=by
 have:a.toArray=b.toArray:=congrArg Str.cps h
 simpa using this
theorem Zwm(l:List Nat):(S l).cps.toList=l:=by simp
theorem Zsv{α:Type}(p:List α)(c:α):L2.atI (p++[c]) (-1)=some c:=by
 unfold L2.atI L2.ixN
 rw[List.length_append,List.length_singleton,if_neg (by decide),if_pos (by omega)]
 have e:(-1+((p.length+1:Nat):Int)).toNat=p.length:=by omega
 rw[e]
 simp
theorem Zbw{α:Type}(p:List α)(i:Nat)(c:α)(h:p[i]? =some c):L2.atI p (i:Int)=some c:=by
 have hl:=(List.getElem?_eq_some_iff.mp h).1
 unfold L2.atI L2.ixN
 rw[if_pos (by omega),if_pos (by omega)]
 simpa using h
section
variable{κ:Type}[DecidableEq κ]
theorem Zjz(k k':κ)(v:D):∀(ks:List κ) (vs:List D),k∈ks→ks.length=vs.length→look ks ((ks.zip vs).map fun p=>if p.1=k then v else p.2) k'=if k=k' then some v else look ks vs k'
 |a::ks,u::vs,hk,hl=>by
  rw[List.zip_cons_cons,List.map_cons]
  show(if a=k' then some (if a=k then v else u)else look ks ((ks.zip vs).map fun p=>if p.1=k then v else p.2) k')=if k=k' then some v else(if a=k' then some u else look ks vs k')
  by_cases ha:a=k'
  ·subst ha
   rw[if_pos rfl,if_pos rfl]
   by_cases hk2:a=k
   ·subst hk2;rw[if_pos rfl,if_pos rfl]
   ·rw[if_neg hk2,if_neg fun e=>hk2 e.symm]
  ·rw[if_neg ha,if_neg ha]
   by_cases hm:k∈ks
   ·exact Zjz k k' v ks vs hm (by simpa using hl)
   ·have hak:k=a:=by
     rcases List.mem_cons.mp hk with e|e
     ·exact e
     ·exact absurd e hm
    rw[if_neg fun e=>ha (hak.symm.trans e)]
    have:((ks.zip vs).map fun p=>if p.1=k then v else p.2)=vs:=by
     have hl':ks.length=vs.length:=by simpa using hl
     clear hk hl ha
     induction ks generalizing vs with
     |nil=>cases vs with
      |nil=>rfl
      |cons _ _=>simp at hl'
     |cons b ks ih=>cases vs with
      |nil=>simp at hl'
      |cons w vs=>
       rw[List.zip_cons_cons,List.map_cons,if_neg fun e=>hm (by rw[←e];exact List.mem_cons_self),ih vs (fun h=>hm (List.mem_cons_of_mem _ h)) (by simpa using hl')]
    rw[this]
 | [],_,hk,_=>nomatch hk
theorem Zhl(k k':κ)(v:D):∀(ks:List κ) (vs:List D),k∉ks→ks.length=vs.length→look (ks++[k]) (vs++[v]) k'=if k=k' then some v else look ks vs k'
 | [],[],_,_=>by show(if k=k' then some v else none)=_;rfl
 |a::ks,u::vs,hk,hl=>by
  show(if a=k' then some u else look (ks++[k]) (vs++[v]) k')=if k=k' then some v else(if a=k' then some u else look ks vs k')
  by_cases ha:a=k'
  ·rw[if_pos ha,if_pos ha,if_neg fun e=>hk (by rw[e,←ha];exact List.mem_cons_self)]
  ·rw[if_neg ha,if_neg ha]
   exact Zhl k k' v ks vs (fun h=>hk (List.mem_cons_of_mem _ h)) (by simpa using hl)
theorem Zpf(k k':κ)(v:D)(ks:List κ)(vs:List D)(hl:ks.length=vs.length):look (putA ks vs k v).1 (putA ks vs k v).2 k'=if k=k' then some v else look ks vs k':=by
 unfold putA
 split
 ·rename_i h;exact Zjz k k' v ks vs h hl
 ·rename_i h;exact Zhl k k' v ks vs h hl
theorem Zsw(k:κ)(v:D)(ks:List κ)(vs:List D)(hl:ks.length=vs.length):(putA ks vs k v).1.length=(putA ks vs k v).2.length∧(putA ks vs k v).2.length≤vs.length+1:=by
 unfold putA
 split
 ·simp[hl]
 ·simp[hl]
end
end My
namespace My
open DL PySem
noncomputable abbrev nats(s n:Nat):List D:=(List.range' s n).map fun i:Nat=>D.int (i:Int)
theorem Zbm(n:Nat):Zia 0 n=nats 0 n:=by
 unfold Zia
 rw[List.range_eq_range']
 refine List.map_congr_left fun i _=>?_
 simp
noncomputable def Zhm(i:Nat):List D→List D
 | []=>[]
 |x::r=>.tup [.int (i:Int),x]::Zhm (i+1) r
theorem Zwn(xs:List D):∀i:Nat,((xs.zipIdx i).map fun p:D×Nat=>D.tup [.int (p.2:Nat),p.1])=Zhm i xs:=by
 induction xs with
 |nil=>intro i;rfl
 |cons x r ih=>intro i;rw[List.zipIdx_cons,List.map_cons,ih];rfl
theorem Zf5(xs:List D):Zeg xs=Zhm 0 xs:=Zwn xs 0
theorem Zc1(r:List Str):(r.map D.str).all D.isFlat=true:=by
 rw[List.all_map];simp
theorem Zis(t:Str)(r:List Str):inFl (.str t) (r.map D.str)=decide (t∈r):=by
 unfold inFl
 induction r with
 |nil=>rfl
 |cons x r ih=>
  rw[List.map_cons,List.any_cons,ih,Zjn]
  by_cases h:x=t
  ·subst h;simp
  ·have h':¬t=x:=fun e=>h e.symm
   simp[h,h']
theorem Zc2(t:Str)(r:List Str)(h:t∈r):((r.map D.str).findIdx? fun y=>eqFl y (.str t))=some (r.findIdx fun x=>decide (x=t)):=by
 induction r with
 |nil=>cases h
 |cons x r ih=>
  rw[List.map_cons,List.findIdx?_cons,Zjn,List.findIdx_cons]
  by_cases hx:x=t
  ·simp[hx]
  ·have hr:t∈r:=by
    rcases List.mem_cons.mp h with e|e
    ·exact absurd e.symm hx
    ·exact e
   rw[ih hr]
   simp[hx]
theorem Zm4(n:Nat)(xs:List D)(h:∀x∈xs,eqM n x x=some true):eqM (n+1) (.lst xs) (.lst xs)=some true:=by
 simp[Zfj xs h]
theorem Zsx(n:Nat)(i:Int):eqM (n+1) (.int i) (.int i)=some true:=by simp
theorem Zsy(n:Nat)(x:Str):eqM (n+1) (.str x) (.str x)=some true:=by simp
theorem Zpg(n:Nat)(r:List Str):eqM (n+2) (.lst (r.map D.str)) (.lst (r.map D.str))=some true:=Zm4 _ _ fun x hx=>by
 obtain⟨t,_,rfl⟩:=List.mem_map.mp hx
 exact Zsy n t
theorem Zqj(xs:List D)(m:Nat)(h:m≤xs.length):cutD xs none (some (m:Int))=xs.take m:=by
 unfold cutD HT.sIx
 dsimp only
 rw[if_neg (by omega),List.drop_zero]
 congr 1
 omega
theorem Zj0(xs:List D)(m:Nat)(h:m≤xs.length):cutD xs (some (m:Int)) none=xs.drop m:=by
 unfold cutD HT.sIx
 dsimp only
 rw[if_neg (by omega),show min ((m:Int)).toNat xs.length=m by omega]
 rw[List.take_of_length_le (by rw[List.length_drop];omega)]
theorem Zwo{α:Type}(l:List α)(x n:Int)(hl:(l.length:Int)=n)(hn:0<n):∃c,c∈l∧L2.atI l (x % n)=some c:=by
 have h0:0≤x % n:=Int.emod_nonneg _ (by omega)
 have h1:x % n<n:=Int.emod_lt_of_pos _ hn
 obtain⟨j,hj⟩:=Int.eq_ofNat_of_zero_le h0
 have hjl:j<l.length:=by omega
 rw[hj]
 exact⟨l[j],List.getElem_mem hjl,Zbw _ _ _ (List.getElem?_eq_getElem hjl)⟩
theorem Zm5(i:Int)(h0:0≤i)(h:i<2^63):i.natAbs.log2<1920:=by
 have h1:i.natAbs<2^63:=by omega
 by_cases hz:i.natAbs=0
 ·rw[hz];decide
 ·have:=(Nat.log2_lt hz).mpr h1
  omega
end My
noncomputable section
local macro_rules| `(tactic|trivial)=> `(tactic|first|exact Or.inl rfl|exact Or.inr (Or.inl rfl)|exact Or.inr (Or.inr rfl)|exact Or.inr rfl)
namespace Gen
open PySem PySem.Spec PyProof.Rows L2 DL
noncomputable def top(i:Nat):Stmt:=PySem.Challenge.pw_citeward_k45_whole_works_put_in_one_by_o.main.body.getD i (.Pass ⟨0,0,0,0⟩)
noncomputable abbrev FUEL:Nat:=1000
noncomputable abbrev Zbf:Stmt:=top 12
noncomputable abbrev Zbg:Stmt:=top 13
noncomputable abbrev Zdg:Stmt:=top 14
noncomputable abbrev Zf6:Stmt:=top 2
noncomputable abbrev Zdh:Stmt:=top 3
noncomputable abbrev Zep:Stmt:=top 4
noncomputable abbrev Zb2:Stmt:=top 5
noncomputable abbrev Zeq:Stmt:=top 8
noncomputable abbrev Zb3:Stmt:=top 6
noncomputable abbrev Zb4:Stmt:=top 10
noncomputable abbrev Zdi:Stmt:=top 9
noncomputable abbrev Zbh:Stmt:=top 15
noncomputable abbrev Zc3:Stmt:=top 16
noncomputable def Za2:FS:=
 seqF (ifS (Z6 (binF ltD (Za 1) (Zbk lenD (Zd (Za 0) Zh)))) (retF (binF ixX (Za 0) (Za 1))) (Zch)) (retF (Ze (.int 0)))
noncomputable def Z1:List D→Option SV:=Zck Za2 2
noncomputable def Zal:FS:=
 seqF (appF 2 (binF modD (Za 3) (Ze (.int 5040)))) (setF 3 (binF Zic (Za 3) (Ze (.int 5040))))
noncomputable def Zam:FS:=
 seqF (setF 3 (binF modD (binF mulZ (binF addD (binF addD (Za 3) (Za 4)) (Ze (.int 1))) (Ze (.int 48271))) (Ze (.int 2147483647)))) (appF 2 (binF modD (binF mulZ (Za 3) (Ze (.int 69621))) (Ze (.int 2147483629))))
noncomputable def Za3:FS:=
 seqF (setF 2 (lstF (Z0))) (seqF (setF 3 (binF Zic (Za 0) (Ze (.int 2)))) (seqF (ifS (Z6 (binF eqY (binF modD (Za 0) (Ze (.int 2))) (Ze (.int 1)))) (seqF (forF (rngI (Zd (Za 1) Zh)) (Zg 4) Zal) (retF (Za 2))) (Zch)) (seqF (setF 3 (binF modD (Za 3) (Ze (.int 2147483647)))) (seqF (forF (rngI (Zd (Za 1) Zh)) (Zg 4) Zam) (retF (Za 2))))))
noncomputable def Zaa:List D→Option SV:=Zck Za3 5
noncomputable def Zat:FS:=
 ifS (Z6 (binF eqY (binF modD (Za 0) (Ze (.int 3))) (Ze (.int 0)))) (seqF (setF 5 (binF addD (Za 5) (binF ixX (Ze (.str "abc")) (binF modD (Za 6) (Ze (.int 3)))))) (appF 4 (Za 5))) (appF 4 (binF addD (Ze (.str "Kim ")) (Zbk strD (Zd (binF modD (Za 6) (Za 3)) Zh))))
noncomputable def Zb5:FS:=
 seqF (setF 3 (binF addD (Ze (.int 2)) (binF modD (binF Zic (Za 0) (Ze (.int 3))) (Ze (.int 19))))) (seqF (setF 4 (lstF (Z0))) (seqF (setF 5 (Ze (.str "Lee"))) (seqF (forF (anyI (Zbx 2 Zaa (Zd (Za 2) (Zd (Za 1) (Zh))))) (Zg 6) Zat) (seqF (ifS (andF (Z6 (binF eqY (binF modD (Za 0) (Ze (.int 3))) (Ze (.int 2)))) (Z6 (binF gtD (binF modD (Za 2) (Ze (.int 4))) (Ze (.int 0))))) (Zo4 4 (unF negD (Ze (.int 1))) (Ze (.str "the same"))) (Zch)) (retF (Za 4))))))
noncomputable def Zay:List D→Option SV:=Zck Zb5 7
noncomputable def Za9:FS:=
 ifS (andF (Z6 (binF neY (Za 4) (Za 1))) (Z6 (binF inZ (Za 3) (Za 5)))) (retF (tupF (Zq (Za 4) (Zq (bmF "list" Zel (Za 5) (Zd (Za 3) Zh)) (Z0))))) (Zch)
noncomputable def Zit:FS:=
 seqF (setF 3 (binF ixX (binF ixX (Za 0) (Za 1)) (Za 2))) (seqF (forF (Zg8 (Zq (Za 0) Z0)) (Zcw 2 (Z3 (Zg 4) (Z3 (Zg 5) (Zdc)))) Za9) (retF (Ze .non)))
noncomputable def Zer:List D→Option SV:=Zck Zit 6
noncomputable def Zah:FS:=
 ifS (Z6 (binF isND (Zbx 3 Zer (Zd (Za 0) (Zd (Za 1) (Zd (Za 2) (Zh))))) (Ze .non))) (retF (Za 2)) (Zch)
noncomputable def Zes:FS:=
 seqF (forF (rngI (Zd (Zbk lenD (Zd (binF ixX (Za 0) (Za 1)) Zh)) Zh)) (Zg 2) Zah) (retF (Ze .non))
noncomputable def Zb6:List D→Option SV:=Zck Zes 3
noncomputable def Zbn:FT:=
 Z6 (binF geD (Za 2) (Ze (.int 0)))
noncomputable def Zcf:FS:=
 seqF (setF 1 (binF addD (binF ixX (Ze (.str "abcdefghijklmnopqrstuvwxyz")) (binF modD (Za 2) (Ze (.int 26)))) (Za 1))) (setF 2 (binF subD (binF Zic (Za 2) (Ze (.int 26))) (Ze (.int 1))))
noncomputable def Zf7:FS:=
 seqF (setF 1 (Ze (.str ""))) (seqF (setF 2 (Za 0)) (seqF (Zb1 Zbn Zcf FUEL) (retF (Za 1))))
noncomputable def Zc4:List D→Option SV:=Zck Zf7 3
noncomputable def Zab:FS:=
 seqF (setF 5 (Zbx 2 Zb6 (Zd (Za 0) (Zd (Za 3) (Zh))))) (ifS (Z6 (binF isND (Za 5) (Ze .non))) (seqF (setF 6 (bmDF "dict" Zjh (Za 2) (Zq (binF ixX (Za 4) (unF negD (Ze (.int 1)))) (Zq (Ze (.int 0)) (Z0))))) (seqF (putF 2 (binF ixX (Za 4) (unF negD (Ze (.int 1)))) (binF addD (Za 6) (Ze (.int 1)))) (appF 1 (binF addD (binF addD (binF ixX (Za 4) (unF negD (Ze (.int 1)))) (Ze (.str "^"))) (Zbx 1 Zc4 (Zd (Za 6) (Zh))))))) (appF 1 (binF ixX (Za 4) (Za 5))))
noncomputable def Zcs:FS:=
 seqF (setF 1 (lstF (Z0))) (seqF (setF 2 (Zr2)) (seqF (forF (Zg8 (Zq (Za 0) Z0)) (Zcw 2 (Z3 (Zg 3) (Z3 (Zg 4) (Zdc)))) Zab) (retF (Za 1))))
noncomputable def Zv:List D→Option SV:=Zck Zcs 7
noncomputable def Zdj:FE:=
 Zbk Zkk (Zd (Za 0) Zh)
noncomputable def Zf8:FS:=
 seqF (setF 3 (Zib [.own,.acc] 1 (anyI (Za 0)) (Zg 0) (Zg0) Zdj)) (retF (binF addD (binF addD (slF slD (Za 3) (Zdq) (Ze1 (Za 2))) (lstF (Zq (Zbk Zkk (Zd (Za 1) Zh)) (Z0)))) (slF slD (Za 3) (Ze1 (Za 2)) (Zdq))))
noncomputable def Zbc:List D→Option SV:=Zck Zf8 4
noncomputable def Zbr:FS:=
 retF (binF ixX (bmF "str" Zar (Za 0) (Zd (Ze (.str "^")) Zh)) (Ze (.int 2)))
noncomputable def Zai:List D→Option SV:=Zck Zbr 1
noncomputable def Zbs:FS:=
 seqF (ifS (Z6 (binF neY (Zbx 1 Zai (Zd (Za 0) (Zh))) (Ze (.str "")))) (retF (tupF (Zq (Ze (.str "letter")) (Z0)))) (Zch)) (retF (tupF (Zq (Ze (.str "fits")) (Zq (bmF "list" Zel (Za 1) (Zd (Za 0) Zh)) (Z0)))))
noncomputable def Zau:List D→Option SV:=Zck Zbs 2
noncomputable def Zbt:FS:=
 seqF (setF 7 (binF ixX (Za 3) (ifF (Z6 (binF ltD (Za 5) (Za 2))) (Za 5) (binF addD (Za 5) (Ze (.int 1)))))) (ifS (Z6 (binF neY (Za 7) (Za 6))) (appF 4 (tupF (Zq (Za 5) (Zq (Za 6) (Zq (Za 7) (Zq (Zbx 2 Zau (Zd (Za 6) (Zd (Za 1) (Zh)))) (Z0))))))) (Zch))
noncomputable def Zet:FS:=
 seqF (setF 3 (Zbx 1 Zv (Zd (Zbx 3 Zbc (Zd (Za 0) (Zd (Za 1) (Zd (Za 2) (Zh))))) (Zh)))) (seqF (setF 4 (lstF (Z0))) (seqF (forF (Zg8 (Zq (Zbx 1 Zv (Zd (Za 0) (Zh))) Z0)) (Zcw 2 (Z3 (Zg 5) (Z3 (Zg 6) (Zdc)))) Zbt) (retF (Za 4))))
noncomputable def Zbo:List D→Option SV:=Zck Zet 8
noncomputable def Zan:FS:=
 seqF (ifS (Z6 (binF inZ (Ze (.str "^")) (Za 2))) (retF (binF eqY (slF slT (bmF "str" Zar (Za 3) (Zd (Ze (.str "^")) Zh)) (Zdq) (Ze1 (Ze (.int 2)))) (slF slT (bmF "str" Zar (Za 2) (Zd (Ze (.str "^")) Zh)) (Zdq) (Ze1 (Ze (.int 2)))))) (Zch)) (seqF (ifS (Z6 (binF Zjo (Za 2) (Za 1))) (retF (Ze (.bl false))) (Zch)) (seqF (ifS (Z6 (binF inZ (Ze (.str "^")) (Za 3))) (retF (binF eqY (binF ixX (bmF "str" Zar (Za 3) (Zd (Ze (.str "^")) Zh)) (Ze (.int 0))) (binF ixX (Za 0) (unF negD (Ze (.int 1)))))) (Zch)) (retF (andV (binF inZ (Za 3) (Za 0)) (binF gtD (bmF "list" Zel (Za 0) (Zd (Za 3) Zh)) (bmF "list" Zel (Za 0) (Zd (Za 2) Zh)))))))
noncomputable def Z2:List D→Option SV:=Zck Zan 4
noncomputable def Zdk:FS:=
 seqF (Zh8 (Zcw 4 (Z3 (Zg 13) (Z3 (Zg 14) (Z3 (Zg 15) (Z3 (Zg 16) (Zdc)))))) (Za 12)) (seqF (ifS (orF (Z6 (binF neY (Za 14) (binF ixX (Za 11) (Za 13)))) (notF (Z6 (Zbx 4 Z2 (Zd (binF ixX (Za 3) (Za 13)) (Zd (Za 6) (Zd (Za 14) (Zd (Za 15) (Zh))))))))) (retF (Ze (.bl false))) (Zch)) (Zo4 11 (Za 13) (Za 15)))
noncomputable def Ziu:FE:=
 binF ixX (Za 0) (Ze (.int 0))
noncomputable def Ziv:FE:=
 binF ixX (Za 0) (Ze (.int 0))
noncomputable def Zf9:FT:=
 Z6 (binF neY (binF ixX (Za 1) (Za 0)) (binF ixX (Za 2) (Za 0)))
noncomputable def Zga:FE:=
 Za 0
noncomputable def Zct:FS:=
 seqF (setF 6 (Zbx 3 Zay (Zd (Za 1) (Zd (Za 2) (Zd (Za 5) (Zh)))))) (seqF (setF 7 (binF modD (binF Zic (Za 5) (Ze (.int 5))) (binF addD (Zbk lenD (Zd (Za 3) Zh)) (Ze (.int 1))))) (seqF (setF 8 (Zbx 3 Zbo (Zd (Za 3) (Zd (Za 6) (Zd (Za 7) (Zh)))))) (seqF (setF 9 (Zbx 3 Zbc (Zd (Za 3) (Zd (Za 6) (Zd (Za 7) (Zh)))))) (seqF (setF 10 (Zbx 1 Zv (Zd (Za 9) (Zh)))) (seqF (setF 11 (Zbk Zkk (Zd (Za 4) Zh))) (seqF (forF (anyI (Za 8)) (Zg 12) Zdk) (seqF (ifS (Zo6 (Z6 (binF neY (Zib [.own,.acc] 1 (anyI (Za 8)) (Zg 0) (Zg0) Ziu) (Zbk srtD (Zd (Zib [.own,.acc] 1 (anyI (Za 8)) (Zg 0) (Zg0) Ziv) Zh))))) (retF (Ze (.bl false))) (Zch)) (seqF (ifS (Zo6 (Z6 (binF neY (Zbk lenD (Zd (Zib [.own,.cap 4,.cap 11,.acc] 3 (rngI (Zd (Zbk lenD (Zd (Za 4) Zh)) Zh)) (Zg 0) (Zf9) Zga) Zh)) (Zbk lenD (Zd (Za 8) Zh))))) (retF (Ze (.bl false))) (Zch)) (seqF (ifS (Z6 (binF neY (Za 11) (binF addD (slF slD (Za 10) (Zdq) (Ze1 (Za 7))) (slF slD (Za 10) (Ze1 (binF addD (Za 7) (Ze (.int 1)))) (Zdq))))) (retF (Ze (.bl false))) (Zch)) (seqF (setF 3 (Za 9)) (setF 4 (Za 10))))))))))))
noncomputable def Zsz:FS:=
 seqF (setF 1 (Zbx 2 Z1 (Zd (Za 0) (Zd (Ze (.int 0)) (Zh))))) (seqF (setF 2 (binF addD (Ze (.int 1)) (binF modD (Zbx 2 Z1 (Zd (Za 0) (Zd (Ze (.int 1)) (Zh)))) (Ze (.int 4))))) (seqF (setF 3 (lstF (Z0))) (seqF (setF 4 (lstF (Z0))) (seqF (forF (anyI (slF slD (Za 0) (Ze1 (Ze (.int 2))) (Ze1 (Ze (.int 16))))) (Zg 5) Zct) (retF (Ze (.bl true)))))))
noncomputable def Zgb:List D→Option SV:=Zck Zsz 17
end Gen
namespace Gen
open PySem PySem.Spec PyProof.Rows L2 DL
structure Txt(K:PySem.W.Frag)(mg:Str→Option Value)(tx0:Tok)(fx0 fx1 fx2 fx3 fx4 fx5 fx6 fx7 fx8 fx9 fx10 fx11 fx12:Addr):Prop where
 z_enumerate:mg "enumerate"=none
 z_len:mg "len"=none
 z_list:mg "list"=none
 z_range:mg "range"=none
 z_set:mg "set"=none
 z_sorted:mg "sorted"=none
 z_str:mg "str"=none
 c_SMALL_LETTERS:mg "SMALL_LETTERS"=some (.str "abcdefghijklmnopqrstuvwxyz" tx0)
 m_0:mg "_law_cell_at"=some (.ref fx0)
 k_0:PySem.W.keepIn K (.ref fx0)=true
 m_1:mg "_law_numbers"=some (.ref fx1)
 k_1:PySem.W.keepIn K (.ref fx1)=true
 m_2:mg "_law_row"=some (.ref fx2)
 k_2:PySem.W.keepIn K (.ref fx2)=true
 m_3:mg "rival"=some (.ref fx3)
 k_3:PySem.W.keepIn K (.ref fx3)=true
 m_4:mg "step_of"=some (.ref fx4)
 k_4:PySem.W.keepIn K (.ref fx4)=true
 m_5:mg "letter"=some (.ref fx5)
 k_5:PySem.W.keepIn K (.ref fx5)=true
 m_6:mg "pointings"=some (.ref fx6)
 k_6:PySem.W.keepIn K (.ref fx6)=true
 m_7:mg "put_in"=some (.ref fx7)
 k_7:PySem.W.keepIn K (.ref fx7)=true
 m_8:mg "letter_in"=some (.ref fx8)
 k_8:PySem.W.keepIn K (.ref fx8)=true
 m_9:mg "reason_of"=some (.ref fx9)
 k_9:PySem.W.keepIn K (.ref fx9)=true
 m_10:mg "changes"=some (.ref fx10)
 k_10:PySem.W.keepIn K (.ref fx10)=true
 m_11:mg "_law_goes_on"=some (.ref fx11)
 k_11:PySem.W.keepIn K (.ref fx11)=true
 m_12:mg "law"=some (.ref fx12)
 k_12:PySem.W.keepIn K (.ref fx12)=true
section
variable{P:Program}{w:World}{K:PySem.W.Frag}{mg:Str→Option Value}{base:Heap}{tx0:Tok}{fx0 fx1 fx2 fx3 fx4 fx5 fx6 fx7 fx8 fx9 fx10 fx11 fx12:Addr}
theorem Ze2:FnScope ["_law_script","_law_k"] ["_law_script","_law_k"] (Zk Zbf):=⟨rfl,rfl,rfl,by decide+kernel,rfl,by decide+kernel,by decide+kernel⟩
theorem Zu:FnScope ["_law_cell","_law_many","_law_found","_law_number","_law_k"] ["_law_cell","_law_many"] (Zk Zbg):=⟨rfl,rfl,rfl,by decide+kernel,rfl,by decide+kernel,by decide+kernel⟩
theorem Za5:FnScope ["_law_sort","_law_steps","_law_cell","_law_many","_law_row_here","_law_text","_law_number"] ["_law_sort","_law_steps","_law_cell"] (Zk Zdg):=⟨rfl,rfl,rfl,by decide+kernel,rfl,by decide+kernel,by decide+kernel⟩
theorem Zd2:FnScope ["rows","place","step","text","other","row"] ["rows","place","step"] (Zk Zf6):=⟨rfl,rfl,rfl,by decide+kernel,rfl,by decide+kernel,by decide+kernel⟩
theorem Zfk:FnScope ["rows","place","step"] ["rows","place"] (Zk Zdh):=⟨rfl,rfl,rfl,by decide+kernel,rfl,by decide+kernel,by decide+kernel⟩
theorem Zb7:FnScope ["n","text","left"] ["n"] (Zk Zep):=⟨rfl,rfl,rfl,by decide+kernel,rfl,by decide+kernel,by decide+kernel⟩
theorem Z8:FnScope ["rows","told","counts","place","row","step","number"] ["rows"] (Zk Zb2):=⟨rfl,rfl,rfl,by decide+kernel,rfl,by decide+kernel,by decide+kernel⟩
theorem Zhn:FnScope ["rows","row","place","copies"] ["rows","row","place"] (Zk Zeq):=⟨rfl,rfl,rfl,by decide+kernel,rfl,by decide+kernel,by decide+kernel⟩
theorem Zho:FnScope ["pointing"] ["pointing"] (Zk Zb3):=⟨rfl,rfl,rfl,by decide+kernel,rfl,by decide+kernel,by decide+kernel⟩
theorem Zhp:FnScope ["old","row"] ["old","row"] (Zk Zb4):=⟨rfl,rfl,rfl,by decide+kernel,rfl,by decide+kernel,by decide+kernel⟩
theorem Za6:FnScope ["rows","row","place","after","told","number","old","new"] ["rows","row","place"] (Zk Zdi):=⟨rfl,rfl,rfl,by decide+kernel,rfl,by decide+kernel,by decide+kernel⟩
theorem Ze3:FnScope ["_law_row_here","_law_new_row","_law_old","_law_new"] ["_law_row_here","_law_new_row","_law_old","_law_new"] (Zk Zbh):=⟨rfl,rfl,rfl,by decide+kernel,rfl,by decide+kernel,by decide+kernel⟩
theorem Zao:FnScope ["_law_script","_law_sort","_law_steps","_law_rows","_law_told","_law_cell","_law_row_here","_law_place","_law_found","_law_more","_law_after","_law_before","_law_one","_law_at","_law_old","_law_new","_law_reason"] ["_law_script"] (Zk Zc3):=⟨rfl,rfl,rfl,by decide+kernel,rfl,by decide+kernel,by decide+kernel⟩
theorem okB{x qual:Str}{st:Stmt}{f:Addr}{fd:FuncData}{N ps:List Str}{k n:Nat}(F:Fun K x qual st f fd)(S:FnScope N ps (Zk st))(hn:n=ps.length)(f0:FS)(hb:∀(cdv:Value) (A:Around) (outer:List Env) (s:Shared) (H F0:Hp) (E:XK),Room k (A.deeper (envOfC qual (Zk st) s.heap.objs.size f cdv))→(A.deeper (envOfC qual (Zk st) s.heap.objs.size f cdv)).units+1<cLine→(A.deeper (envOfC qual (Zk st) s.heap.objs.size f cdv)).units+64<cLine→PSs (cxOf CX0 P w K mg base N qual (Zk st) f cdv A outer s H E).nox (Zby st) (Zy (ent H F0:Ent K) f0)):FnOk P w K mg base CX0 (k+1) f fd ps (spOf K n (Zck f0 N.length)):=
 F.ok S (fun _ _ _ _ h=>(Zoe h).trans hn) fun cdv A outer s H vs Q E hr h=>by
  obtain⟨F0,h⟩:=Zoq (N:=N) (f:=f0) h
  exact⟨_,hb cdv A outer s H F0 E hr (Zxw hr) hr.units,h⟩
variable(T:Txt K mg tx0 fx0 fx1 fx2 fx3 fx4 fx5 fx6 fx7 fx8 fx9 fx10 fx11 fx12)
include T
theorem Ze4{fd:FuncData}(F:Fun K "_law_cell_at" "_law_cell_at" Zbf fx0 fd):
  FnOk P w K mg base CX0 1 fx0 fd ["_law_script","_law_k"] (spOf K 2 Z1):=by
 refine okB F Ze2 rfl Za2 fun _ _ _ _ _ _ _ hr hu hv=>?_
 exact(@Zf _ _ _ _ _ _ (@s_if _ _ _ _ _ _ _ _ _ (@t_lt _ _ _ _ _ _ _ (Zc 1) (@Zkl _ _ _ _ _ _ T.z_len (Zc 0) (by rfl) (by rfl) (by rfl))) (@Zn _ _ _ _ (@Zaz _ _ _ _ _ (@Zbl _ _ _ _ _ _ _ hu (Zc 0) (Zc 1) (by intro _ _;rfl)))) Zbb) (@Zn _ _ _ _ (@Zaz _ _ _ _ _ Zr)))
theorem Ze5{fd:FuncData}(F:Fun K "_law_numbers" "_law_numbers" Zbg fx1 fd):
  FnOk P w K mg base CX0 1 fx1 fd ["_law_cell","_law_many"] (spOf K 2 Zaa):=by
 refine okB F Zu rfl Za3 fun _ _ _ _ _ _ _ hr hu hv=>?_
 exact(@Zf _ _ _ _ _ _ (@Zad _ _ _ _ _ 2 _ _ Zu.nd (@Zie _ _ _ _ _ Zcq) (by rfl) (by trivial) (by rfl) (by trivial)) (@Zf _ _ _ _ _ _ (@Zad _ _ _ _ _ 3 _ _ Zu.nd (@Zg3 _ _ _ _ _ _ _ (Zc 0) Zr) (by rfl) (by trivial) (by rfl) (by trivial)) (@Zf _ _ _ _ _ _ (@s_if _ _ _ _ _ _ _ _ _ (@Zr8 _ _ _ _ _ _ _ hv (@Zcy _ _ _ _ _ _ _ (Zc 0) Zr) Zr) (@Zf _ _ _ _ _ _ (@Zfv _ _ _ _ _ _ _ _ _ PassesOwn.never rfl (@Zon _ _ _ _ _ _ _ T.z_range (Zc 1) (by rfl) (by rfl)) (@Zaj _ _ _ 4 _ Zu.nd (by rfl) (by trivial) (by trivial)) (@Zf _ _ _ _ _ _ (@Zif _ _ _ _ _ 2 _ _ _ _ (@Zcy _ _ _ _ _ _ _ (Zc 3) Zr) (by rfl) (by trivial) (by decide) (by decide) (by rfl) (by rfl) (by rfl) (by rfl) (by rfl) (by rfl)) (@Zn _ _ _ _ (@Zad _ _ _ _ _ 3 _ _ Zu.nd (@Zg3 _ _ _ _ _ _ _ (Zc 3) Zr) (by rfl) (by trivial) (by rfl) (by trivial)))) (by intro _;rfl)) (@Zn _ _ _ _ (@Zaz _ _ _ _ _ (Zc 2)))) Zbb) (@Zf _ _ _ _ _ _ (@Zad _ _ _ _ _ 3 _ _ Zu.nd (@Zcy _ _ _ _ _ _ _ (Zc 3) Zr) (by rfl) (by trivial) (by rfl) (by trivial)) (@Zf _ _ _ _ _ _ (@Zfv _ _ _ _ _ _ _ _ _ PassesOwn.never rfl (@Zon _ _ _ _ _ _ _ T.z_range (Zc 1) (by rfl) (by rfl)) (@Zaj _ _ _ 4 _ Zu.nd (by rfl) (by trivial) (by trivial)) (@Zf _ _ _ _ _ _ (@Zad _ _ _ _ _ 3 _ _ Zu.nd (@Zcy _ _ _ _ _ _ _ (@Zp7 _ _ _ _ _ _ _ (@Zcj _ _ _ _ _ _ _ (@Zcj _ _ _ _ _ _ _ (Zc 3) (Zc 4)) Zr) Zr) Zr) (by rfl) (by trivial) (by rfl) (by trivial)) (@Zn _ _ _ _ (@Zif _ _ _ _ _ 2 _ _ _ _ (@Zcy _ _ _ _ _ _ _ (@Zp7 _ _ _ _ _ _ _ (Zc 3) Zr) Zr) (by rfl) (by trivial) (by decide) (by decide) (by rfl) (by rfl) (by rfl) (by rfl) (by rfl) (by rfl)))) (by intro _;rfl)) (@Zn _ _ _ _ (@Zaz _ _ _ _ _ (Zc 2))))))))
theorem Zkx{fd:FuncData}(F:Fun K "_law_row" "_law_row" Zdg fx2 fd){dx1:FuncData}(Vx1:FnOk P w K mg base CX0 1 fx1 dx1 ["_law_cell","_law_many"] (spOf K 2 Zaa))(Wx1:Zbi K dx1 ["_law_cell","_law_many"] []):
  FnOk P w K mg base CX0 2 fx2 fd ["_law_sort","_law_steps","_law_cell"] (spOf K 3 Zay):=by
 refine okB F Za5 rfl Zb5 fun _ _ _ _ _ _ _ hr hu hv=>?_
 exact(@Zf _ _ _ _ _ _ (@Zad _ _ _ _ _ 3 _ _ Za5.nd (@Zcj _ _ _ _ _ _ _ Zr (@Zcy _ _ _ _ _ _ _ (@Zg3 _ _ _ _ _ _ _ (Zc 0) Zr) Zr)) (by rfl) (by trivial) (by rfl) (by trivial)) (@Zf _ _ _ _ _ _ (@Zad _ _ _ _ _ 4 _ _ Za5.nd (@Zie _ _ _ _ _ Zcq) (by rfl) (by trivial) (by rfl) (by trivial)) (@Zf _ _ _ _ _ _ (@Zad _ _ _ _ _ 5 _ _ Za5.nd Zcp (by rfl) (by trivial) (by rfl) (by trivial)) (@Zf _ _ _ _ _ _ (@Zfv _ _ _ _ _ _ _ _ _ PassesOwn.never rfl (@Zko _ _ _ _ _ (@Za0 _ _ _ _ _ _ _ _ _ _ _ _ _ _ Vx1 (hr.mono (by decide)) T.m_1 T.k_1 Wx1 (@Zm _ _ _ _ _ _ (Zc 2) (@Zm _ _ _ _ _ _ (Zc 1) Za7 (by rfl)) (by rfl)) (by rfl) (by decide) (by rfl) (by rfl))) (@Zaj _ _ _ 6 _ Za5.nd (by rfl) (by trivial) (by trivial)) (@Zn _ _ _ _ (@s_if _ _ _ _ _ _ _ _ _ (@Zr8 _ _ _ _ _ _ _ hv (@Zcy _ _ _ _ _ _ _ (Zc 0) Zr) Zr) (@Zf _ _ _ _ _ _ (@Zad _ _ _ _ _ 5 _ _ Za5.nd (@Zcj _ _ _ _ _ _ _ (Zc 5) (@Zbl _ _ _ _ _ _ _ hu Zcp (@Zcy _ _ _ _ _ _ _ (Zc 6) Zr) (by intro _ _;rfl))) (by rfl) (by trivial) (by rfl) (by trivial)) (@Zn _ _ _ _ (@Zif _ _ _ _ _ 4 _ _ _ _ (Zc 5) (by rfl) (by trivial) (by decide) (by decide) (by rfl) (by rfl) (by rfl) (by rfl) (by rfl) (by rfl)))) (@Zn _ _ _ _ (@Zif _ _ _ _ _ 4 _ _ _ _ (@Zcj _ _ _ _ _ _ _ Zcp (@Zv3 _ _ _ _ _ _ T.z_str (@Zcy _ _ _ _ _ _ _ (Zc 6) (Zc 3)) (by rfl) (by rfl) (by rfl))) (by rfl) (by trivial) (by decide) (by decide) (by rfl) (by rfl) (by rfl) (by rfl) (by rfl) (by rfl))))) (by intro _;rfl)) (@Zf _ _ _ _ _ _ (@s_if _ _ _ _ _ _ _ _ _ (@PW.pt _ _ _ (@Zvl _ _ _ _ _ _ _ _ (@Zr8 _ _ _ _ _ _ _ hv (@Zcy _ _ _ _ _ _ _ (Zc 0) Zr) Zr) (@Zpz _ _ _ _ _ (@t_gt _ _ _ _ _ _ _ (@Zcy _ _ _ _ _ _ _ (Zc 2) Zr) Zr)))) (@Zn _ _ _ _ (@Zp8 _ _ _ _ _ _ _ 4 _ _ _ (@Zl8 _ _ _ _ _ Zr) Zcp (by rfl) (by trivial) (by decide) (by decide) (by rfl) (by rfl) (by rfl) (by intro _;rfl))) Zbb) (@Zn _ _ _ _ (@Zaz _ _ _ _ _ (Zc 4))))))))
theorem Zph{fd:FuncData}(F:Fun K "rival" "rival" Zf6 fx3 fd):
  FnOk P w K mg base CX0 1 fx3 fd ["rows","place","step"] (spOf K 3 Zer):=by
 refine okB F Zd2 rfl Zit fun _ _ _ _ _ _ _ hr hu hv=>?_
 exact(@Zf _ _ _ _ _ _ (@Zad _ _ _ _ _ 3 _ _ Zd2.nd (@Zbl _ _ _ _ _ _ _ hu (@Zbl _ _ _ _ _ _ _ hu (Zc 0) (Zc 1) (by intro _ _;rfl)) (Zc 2) (by intro _ _;rfl)) (by rfl) (by trivial) (by rfl) (by trivial)) (@Zf _ _ _ _ _ _ (@Zfv _ _ _ _ _ _ _ _ _ PassesOwn.never rfl (@Zik _ _ _ _ _ _ _ _ _ T.z_enumerate (@Za8 _ _ _ _ _ _ (Zc 0) Zcq (by rfl)) (by rfl) (by rfl)) (@Zom _ _ _ _ _ _ _ rfl (@Zbd _ _ _ _ _ _ (@Zaj _ _ _ 4 _ Zd2.nd (by rfl) (by trivial) (by trivial)) (@Zbd _ _ _ _ _ _ (@Zaj _ _ _ 5 _ Zd2.nd (by rfl) (by trivial) (by trivial)) Zjc (by rfl)) (by rfl)) (by rfl) (by rfl)) (@Zn _ _ _ _ (@s_if _ _ _ _ _ _ _ _ _ (@PW.pt _ _ _ (@Zvl _ _ _ _ _ _ _ _ (@Zhe _ _ _ _ _ _ _ hv (Zc 4) (Zc 1)) (@Zpz _ _ _ _ _ (@Zsf _ _ _ _ _ _ _ hu (Zc 3) (Zc 5) (by rfl))))) (@Zn _ _ _ _ (@Zaz _ _ _ _ _ (@Zol _ _ _ _ _ _ (@Za8 _ _ _ _ _ _ (Zc 4) (@Za8 _ _ _ _ _ _ (@Zf3 _ _ _ _ _ _ _ _ (Zc 5) (Zc 3) (by rfl) (by rfl) (by rfl) (by rfl) (by rfl)) Zcq (by rfl)) (by rfl))))) Zbb)) (by intro _;rfl)) (@Zn _ _ _ _ (@Zaz _ _ _ _ _ Zok))))
theorem Zky{fd:FuncData}(F:Fun K "step_of" "step_of" Zdh fx4 fd){dx3:FuncData}(Vx3:FnOk P w K mg base CX0 1 fx3 dx3 ["rows","place","step"] (spOf K 3 Zer))(Wx3:Zbi K dx3 ["rows","place","step"] []):
  FnOk P w K mg base CX0 2 fx4 fd ["rows","place"] (spOf K 2 Zb6):=by
 refine okB F Zfk rfl Zes fun _ _ _ _ _ _ _ hr hu hv=>?_
 exact(@Zf _ _ _ _ _ _ (@Zfv _ _ _ _ _ _ _ _ _ PassesOwn.never rfl (@Zon _ _ _ _ _ _ _ T.z_range (@Zkl _ _ _ _ _ _ T.z_len (@Zbl _ _ _ _ _ _ _ hu (Zc 0) (Zc 1) (by intro _ _;rfl)) (by rfl) (by rfl) (by rfl)) (by rfl) (by rfl)) (@Zaj _ _ _ 2 _ Zfk.nd (by rfl) (by trivial) (by trivial)) (@Zn _ _ _ _ (@s_if _ _ _ _ _ _ _ _ _ (@Zvk _ _ _ _ _ _ _ (@Za0 _ _ _ _ _ _ _ _ _ _ _ _ _ _ Vx3 (hr.mono (by decide)) T.m_3 T.k_3 Wx3 (@Zm _ _ _ _ _ _ (Zc 0) (@Zm _ _ _ _ _ _ (Zc 1) (@Zm _ _ _ _ _ _ (Zc 2) Za7 (by rfl)) (by rfl)) (by rfl)) (by rfl) (by decide) (by rfl) (by rfl)) Zok) (@Zn _ _ _ _ (@Zaz _ _ _ _ _ (Zc 2))) Zbb)) (by intro _;rfl)) (@Zn _ _ _ _ (@Zaz _ _ _ _ _ Zok)))
theorem Zm6{fd:FuncData}(F:Fun K "letter" "letter" Zep fx5 fd):
  FnOk P w K mg base CX0 1 fx5 fd ["n"] (spOf K 1 Zc4):=by
 refine okB F Zb7 rfl Zf7 fun _ _ _ _ _ _ _ hr hu hv=>?_
 exact(@Zf _ _ _ _ _ _ (@Zad _ _ _ _ _ 1 _ _ Zb7.nd Zcp (by rfl) (by trivial) (by rfl) (by trivial)) (@Zf _ _ _ _ _ _ (@Zad _ _ _ _ _ 2 _ _ Zb7.nd (Zc 0) (by rfl) (by trivial) (by rfl) (by trivial)) (@Zf _ _ _ _ _ _ (@Zrw _ _ _ _ FUEL _ _ _ PassesOwn.never (@t_ge _ _ _ _ _ _ _ (Zc 2) Zr) (@Zf _ _ _ _ _ _ (@Zad _ _ _ _ _ 1 _ _ Zb7.nd (@Zcj _ _ _ _ _ _ _ (@Zbl _ _ _ _ _ _ _ hu (@Zrt _ _ _ _ _ _ T.c_SMALL_LETTERS (by rfl) (by decide)) (@Zcy _ _ _ _ _ _ _ (Zc 2) Zr) (by intro _ _;rfl)) (Zc 1)) (by rfl) (by trivial) (by rfl) (by trivial)) (@Zn _ _ _ _ (@Zad _ _ _ _ _ 2 _ _ Zb7.nd (@Zyj _ _ _ _ _ _ _ (@Zg3 _ _ _ _ _ _ _ (Zc 2) Zr) Zr) (by rfl) (by trivial) (by rfl) (by trivial))))) (@Zn _ _ _ _ (@Zaz _ _ _ _ _ (Zc 1))))))
theorem Zhq{fd:FuncData}(F:Fun K "pointings" "pointings" Zb2 fx6 fd){dx4:FuncData}(Vx4:FnOk P w K mg base CX0 2 fx4 dx4 ["rows","place"] (spOf K 2 Zb6))(Wx4:Zbi K dx4 ["rows","place"] []){dx5:FuncData}(Vx5:FnOk P w K mg base CX0 1 fx5 dx5 ["n"] (spOf K 1 Zc4))(Wx5:Zbi K dx5 ["n"] []):
  FnOk P w K mg base CX0 3 fx6 fd ["rows"] (spOf K 1 Zv):=by
 refine okB F Z8 rfl Zcs fun _ _ _ _ _ _ _ hr hu hv=>?_
 exact(@Zf _ _ _ _ _ _ (@Zad _ _ _ _ _ 1 _ _ Z8.nd (@Zie _ _ _ _ _ Zcq) (by rfl) (by trivial) (by rfl) (by trivial)) (@Zf _ _ _ _ _ _ (@Zad _ _ _ _ _ 2 _ _ Z8.nd Zr6 (by rfl) (by trivial) (by rfl) (by trivial)) (@Zf _ _ _ _ _ _ (@Zfv _ _ _ _ _ _ _ _ _ PassesOwn.never rfl (@Zik _ _ _ _ _ _ _ _ _ T.z_enumerate (@Za8 _ _ _ _ _ _ (Zc 0) Zcq (by rfl)) (by rfl) (by rfl)) (@Zom _ _ _ _ _ _ _ rfl (@Zbd _ _ _ _ _ _ (@Zaj _ _ _ 3 _ Z8.nd (by rfl) (by trivial) (by trivial)) (@Zbd _ _ _ _ _ _ (@Zaj _ _ _ 4 _ Z8.nd (by rfl) (by trivial) (by trivial)) Zjc (by rfl)) (by rfl)) (by rfl) (by rfl)) (@Zf _ _ _ _ _ _ (@Zad _ _ _ _ _ 5 _ _ Z8.nd (@Za0 _ _ _ _ _ _ _ _ _ _ _ _ _ _ Vx4 (hr.mono (by decide)) T.m_4 T.k_4 Wx4 (@Zm _ _ _ _ _ _ (Zc 0) (@Zm _ _ _ _ _ _ (Zc 3) Za7 (by rfl)) (by rfl)) (by rfl) (by decide) (by rfl) (by rfl)) (by rfl) (by trivial) (by rfl) (by trivial)) (@Zn _ _ _ _ (@s_if _ _ _ _ _ _ _ _ _ (@Zvk _ _ _ _ _ _ _ (Zc 5) Zok) (@Zf _ _ _ _ _ _ (@Zad _ _ _ _ _ 6 _ _ Z8.nd (@Zvs _ _ _ _ _ _ _ _ _ hu (Zc 2) (@Za8 _ _ _ _ _ _ (@Zbl _ _ _ _ _ _ _ hu (Zc 4) (@Zl8 _ _ _ _ _ Zr) (by intro _ _;rfl)) (@Za8 _ _ _ _ _ _ Zr Zcq (by rfl)) (by rfl)) (by rfl) (by rfl) (by rfl) (by rfl) (by rfl)) (by rfl) (by trivial) (by rfl) (by trivial)) (@Zf _ _ _ _ _ _ (@Zyu _ _ _ _ _ _ _ 2 _ _ _ hu (@Zbl _ _ _ _ _ _ _ hu (Zc 4) (@Zl8 _ _ _ _ _ Zr) (by intro _ _;rfl)) (@Zcj _ _ _ _ _ _ _ (Zc 6) Zr) (by rfl) (by trivial) (by decide) (by decide) (by rfl)) (@Zn _ _ _ _ (@Zif _ _ _ _ _ 1 _ _ _ _ (@Zcj _ _ _ _ _ _ _ (@Zcj _ _ _ _ _ _ _ (@Zbl _ _ _ _ _ _ _ hu (Zc 4) (@Zl8 _ _ _ _ _ Zr) (by intro _ _;rfl)) Zcp) (@Za0 _ _ _ _ _ _ _ _ _ _ _ _ _ _ Vx5 (hr.mono (by decide)) T.m_5 T.k_5 Wx5 (@Zm _ _ _ _ _ _ (Zc 6) Za7 (by rfl)) (by rfl) (by decide) (by rfl) (by rfl))) (by rfl) (by trivial) (by decide) (by decide) (by rfl) (by rfl) (by rfl) (by rfl) (by rfl) (by rfl))))) (@Zn _ _ _ _ (@Zif _ _ _ _ _ 1 _ _ _ _ (@Zbl _ _ _ _ _ _ _ hu (Zc 4) (Zc 5) (by intro _ _;rfl)) (by rfl) (by trivial) (by decide) (by decide) (by rfl) (by rfl) (by rfl) (by rfl) (by rfl) (by rfl)))))) (by intro _;rfl)) (@Zn _ _ _ _ (@Zaz _ _ _ _ _ (Zc 1))))))
theorem Zm7{fd:FuncData}(F:Fun K "put_in" "put_in" Zeq fx7 fd):
  FnOk P w K mg base CX0 1 fx7 fd ["rows","row","place"] (spOf K 3 Zbc):=by
 refine okB F Zhn rfl Zf8 fun _ _ _ _ _ _ _ hr hu hv=>?_
 exact(@Zf _ _ _ _ _ _ (@Zl5 _ _ _ 3 _ _ _ _ _ _ _ _ _ _ _ _ _ _ _ rfl (Zcz (N':=["one",".acc"]) (src:=[.own,.acc]) (by rfl) (by rfl) (by rfl) (by rfl) (by rfl) (by rfl)) (Zoo 1 (by rfl) (by rfl)) (by decide) (@Zko _ _ _ _ _ (Zc 0)) (fun _ _ _ _=>@xg _ _ _ (fun _=>(@Zaj _ _ _ 0 _ (show(["one",".acc"]:List Str).Nodup by decide+kernel) (by rfl) (by trivial) (by trivial)))) (fun _ _ _ _=>xt0) (fun _ _ _ _=>@xe _ _ _ (fun _=>(@Zl3 _ _ _ _ _ _ T.z_list (Zc 0) (by rfl) (by rfl) (by rfl)))) Zhn.nd (by rfl) (by rfl) (by rfl) (by intro _;rfl)) (@Zn _ _ _ _ (@Zaz _ _ _ _ _ (@Zcj _ _ _ _ _ _ _ (@Zcj _ _ _ _ _ _ _ (@e_sl _ _ _ _ _ _ _ _ _ _ (Zc 3) Zfb (@Zdr _ _ _ _ (Zc 2))) (@Zie _ _ _ _ _ (@Za8 _ _ _ _ _ _ (@Zl3 _ _ _ _ _ _ T.z_list (Zc 1) (by rfl) (by rfl) (by rfl)) Zcq (by rfl)))) (@e_sl _ _ _ _ _ _ _ _ _ _ (Zc 3) (@Zdr _ _ _ _ (Zc 2)) Zfb)))))
theorem Zhr{fd:FuncData}(F:Fun K "letter_in" "letter_in" Zb3 fx8 fd):
  FnOk P w K mg base CX0 1 fx8 fd ["pointing"] (spOf K 1 Zai):=by
 refine okB F Zho rfl Zbr fun _ _ _ _ _ _ _ hr hu hv=>?_
 exact(@Zn _ _ _ _ (@Zaz _ _ _ _ _ (@Zbl _ _ _ _ _ _ _ hu (@Zbq _ _ _ _ _ _ _ _ (Zc 0) Zcp (by rfl) (by rfl) (by rfl) (by rfl) (by rfl)) Zr (by intro _ _;rfl))))
theorem Zhs{fd:FuncData}(F:Fun K "reason_of" "reason_of" Zb4 fx9 fd){dx8:FuncData}(Vx8:FnOk P w K mg base CX0 1 fx8 dx8 ["pointing"] (spOf K 1 Zai))(Wx8:Zbi K dx8 ["pointing"] []):
  FnOk P w K mg base CX0 2 fx9 fd ["old","row"] (spOf K 2 Zau):=by
 refine okB F Zhp rfl Zbs fun _ _ _ _ _ _ _ hr hu hv=>?_
 exact(@Zf _ _ _ _ _ _ (@s_if _ _ _ _ _ _ _ _ _ (@Zhe _ _ _ _ _ _ _ hv (@Za0 _ _ _ _ _ _ _ _ _ _ _ _ _ _ Vx8 (hr.mono (by decide)) T.m_8 T.k_8 Wx8 (@Zm _ _ _ _ _ _ (Zc 0) Za7 (by rfl)) (by rfl) (by decide) (by rfl) (by rfl)) Zcp) (@Zn _ _ _ _ (@Zaz _ _ _ _ _ (@Zol _ _ _ _ _ _ (@Za8 _ _ _ _ _ _ Zcp Zcq (by rfl))))) Zbb) (@Zn _ _ _ _ (@Zaz _ _ _ _ _ (@Zol _ _ _ _ _ _ (@Za8 _ _ _ _ _ _ Zcp (@Za8 _ _ _ _ _ _ (@Zf3 _ _ _ _ _ _ _ _ (Zc 1) (Zc 0) (by rfl) (by rfl) (by rfl) (by rfl) (by rfl)) Zcq (by rfl)) (by rfl))))))
theorem Zkz{fd:FuncData}(F:Fun K "changes" "changes" Zdi fx10 fd){dx6:FuncData}(Vx6:FnOk P w K mg base CX0 3 fx6 dx6 ["rows"] (spOf K 1 Zv))(Wx6:Zbi K dx6 ["rows"] []){dx7:FuncData}(Vx7:FnOk P w K mg base CX0 1 fx7 dx7 ["rows","row","place"] (spOf K 3 Zbc))(Wx7:Zbi K dx7 ["rows","row","place"] []){dx9:FuncData}(Vx9:FnOk P w K mg base CX0 2 fx9 dx9 ["old","row"] (spOf K 2 Zau))(Wx9:Zbi K dx9 ["old","row"] []):
  FnOk P w K mg base CX0 4 fx10 fd ["rows","row","place"] (spOf K 3 Zbo):=by
 refine okB F Za6 rfl Zet fun _ _ _ _ _ _ _ hr hu hv=>?_
 exact(@Zf _ _ _ _ _ _ (@Zad _ _ _ _ _ 3 _ _ Za6.nd (@Za0 _ _ _ _ _ _ _ _ _ _ _ _ _ _ Vx6 (hr.mono (by decide)) T.m_6 T.k_6 Wx6 (@Zm _ _ _ _ _ _ (@Za0 _ _ _ _ _ _ _ _ _ _ _ _ _ _ Vx7 (hr.mono (by decide)) T.m_7 T.k_7 Wx7 (@Zm _ _ _ _ _ _ (Zc 0) (@Zm _ _ _ _ _ _ (Zc 1) (@Zm _ _ _ _ _ _ (Zc 2) Za7 (by rfl)) (by rfl)) (by rfl)) (by rfl) (by decide) (by rfl) (by rfl)) Za7 (by rfl)) (by rfl) (by decide) (by rfl) (by rfl)) (by rfl) (by trivial) (by rfl) (by trivial)) (@Zf _ _ _ _ _ _ (@Zad _ _ _ _ _ 4 _ _ Za6.nd (@Zie _ _ _ _ _ Zcq) (by rfl) (by trivial) (by rfl) (by trivial)) (@Zf _ _ _ _ _ _ (@Zfv _ _ _ _ _ _ _ _ _ PassesOwn.never rfl (@Zik _ _ _ _ _ _ _ _ _ T.z_enumerate (@Za8 _ _ _ _ _ _ (@Za0 _ _ _ _ _ _ _ _ _ _ _ _ _ _ Vx6 (hr.mono (by decide)) T.m_6 T.k_6 Wx6 (@Zm _ _ _ _ _ _ (Zc 0) Za7 (by rfl)) (by rfl) (by decide) (by rfl) (by rfl)) Zcq (by rfl)) (by rfl) (by rfl)) (@Zom _ _ _ _ _ _ _ rfl (@Zbd _ _ _ _ _ _ (@Zaj _ _ _ 5 _ Za6.nd (by rfl) (by trivial) (by trivial)) (@Zbd _ _ _ _ _ _ (@Zaj _ _ _ 6 _ Za6.nd (by rfl) (by trivial) (by trivial)) Zjc (by rfl)) (by rfl)) (by rfl) (by rfl)) (@Zf _ _ _ _ _ _ (@Zad _ _ _ _ _ 7 _ _ Za6.nd (@Zbl _ _ _ _ _ _ _ hu (Zc 3) (@e_if _ _ _ _ _ _ _ _ _ (@t_lt _ _ _ _ _ _ _ (Zc 5) (Zc 2)) (Zc 5) (@Zcj _ _ _ _ _ _ _ (Zc 5) Zr)) (by intro _ _;rfl)) (by rfl) (by trivial) (by rfl) (by trivial)) (@Zn _ _ _ _ (@s_if _ _ _ _ _ _ _ _ _ (@Zhe _ _ _ _ _ _ _ hv (Zc 7) (Zc 6)) (@Zn _ _ _ _ (@Zif _ _ _ _ _ 4 _ _ _ _ (@Zol _ _ _ _ _ _ (@Za8 _ _ _ _ _ _ (Zc 5) (@Za8 _ _ _ _ _ _ (Zc 6) (@Za8 _ _ _ _ _ _ (Zc 7) (@Za8 _ _ _ _ _ _ (@Za0 _ _ _ _ _ _ _ _ _ _ _ _ _ _ Vx9 (hr.mono (by decide)) T.m_9 T.k_9 Wx9 (@Zm _ _ _ _ _ _ (Zc 6) (@Zm _ _ _ _ _ _ (Zc 1) Za7 (by rfl)) (by rfl)) (by rfl) (by decide) (by rfl) (by rfl)) Zcq (by rfl)) (by rfl)) (by rfl)) (by rfl))) (by rfl) (by trivial) (by decide) (by decide) (by rfl) (by rfl) (by rfl) (by rfl) (by rfl) (by rfl))) Zbb))) (by intro _;rfl)) (@Zn _ _ _ _ (@Zaz _ _ _ _ _ (Zc 4))))))
theorem Ze6{fd:FuncData}(F:Fun K "_law_goes_on" "_law_goes_on" Zbh fx11 fd):
  FnOk P w K mg base CX0 1 fx11 fd ["_law_row_here","_law_new_row","_law_old","_law_new"] (spOf K 4 Z2):=by
 refine okB F Ze3 rfl Zan fun _ _ _ _ _ _ _ hr hu hv=>?_
 exact(@Zf _ _ _ _ _ _ (@s_if _ _ _ _ _ _ _ _ _ (@Zsf _ _ _ _ _ _ _ hu Zcp (Zc 2) (by rfl)) (@Zn _ _ _ _ (@Zaz _ _ _ _ _ (@Zvw _ _ _ _ _ _ _ hv (@Zv4 _ _ _ _ _ _ _ _ _ _ (@Zbq _ _ _ _ _ _ _ _ (Zc 3) Zcp (by rfl) (by rfl) (by rfl) (by rfl) (by rfl)) Zfb (@Zdr _ _ _ _ Zr)) (@Zv4 _ _ _ _ _ _ _ _ _ _ (@Zbq _ _ _ _ _ _ _ _ (Zc 2) Zcp (by rfl) (by rfl) (by rfl) (by rfl) (by rfl)) Zfb (@Zdr _ _ _ _ Zr))))) Zbb) (@Zf _ _ _ _ _ _ (@s_if _ _ _ _ _ _ _ _ _ (@Zo5 _ _ _ _ _ _ _ hu (Zc 2) (Zc 1) (by rfl)) (@Zn _ _ _ _ (@Zaz _ _ _ _ _ e_bl)) Zbb) (@Zf _ _ _ _ _ _ (@s_if _ _ _ _ _ _ _ _ _ (@Zsf _ _ _ _ _ _ _ hu Zcp (Zc 3) (by rfl)) (@Zn _ _ _ _ (@Zaz _ _ _ _ _ (@Zvw _ _ _ _ _ _ _ hv (@Zbl _ _ _ _ _ _ _ hu (@Zbq _ _ _ _ _ _ _ _ (Zc 3) Zcp (by rfl) (by rfl) (by rfl) (by rfl) (by rfl)) Zr (by intro _ _;rfl)) (@Zbl _ _ _ _ _ _ _ hu (Zc 0) (@Zl8 _ _ _ _ _ Zr) (by intro _ _;rfl))))) Zbb) (@Zn _ _ _ _ (@Zaz _ _ _ _ _ (@Zyo _ _ _ _ _ _ _ _ (@Zy9 _ _ _ _ _ _ _ hu (Zc 3) (Zc 0) (by rfl)) (@Zyn _ _ _ _ _ _ (@e_gt _ _ _ _ _ _ _ (@Zf3 _ _ _ _ _ _ _ _ (Zc 0) (Zc 3) (by rfl) (by rfl) (by rfl) (by rfl) (by rfl)) (@Zf3 _ _ _ _ _ _ _ _ (Zc 0) (Zc 2) (by rfl) (by rfl) (by rfl) (by rfl) (by rfl))))))))))
theorem Zwp{fd:FuncData}(F:Fun K "law" "law" Zc3 fx12 fd){dx0:FuncData}(Vx0:FnOk P w K mg base CX0 1 fx0 dx0 ["_law_script","_law_k"] (spOf K 2 Z1))(Wx0:Zbi K dx0 ["_law_script","_law_k"] []){dx2:FuncData}(Vx2:FnOk P w K mg base CX0 2 fx2 dx2 ["_law_sort","_law_steps","_law_cell"] (spOf K 3 Zay))(Wx2:Zbi K dx2 ["_law_sort","_law_steps","_law_cell"] []){dx6:FuncData}(Vx6:FnOk P w K mg base CX0 3 fx6 dx6 ["rows"] (spOf K 1 Zv))(Wx6:Zbi K dx6 ["rows"] []){dx7:FuncData}(Vx7:FnOk P w K mg base CX0 1 fx7 dx7 ["rows","row","place"] (spOf K 3 Zbc))(Wx7:Zbi K dx7 ["rows","row","place"] []){dx10:FuncData}(Vx10:FnOk P w K mg base CX0 4 fx10 dx10 ["rows","row","place"] (spOf K 3 Zbo))(Wx10:Zbi K dx10 ["rows","row","place"] []){dx11:FuncData}(Vx11:FnOk P w K mg base CX0 1 fx11 dx11 ["_law_row_here","_law_new_row","_law_old","_law_new"] (spOf K 4 Z2))(Wx11:Zbi K dx11 ["_law_row_here","_law_new_row","_law_old","_law_new"] []):
  FnOk P w K mg base CX0 5 fx12 fd ["_law_script"] (spOf K 1 Zgb):=by
 refine okB F Zao rfl Zsz fun _ _ _ _ _ _ _ hr hu hv=>?_
 exact(@Zf _ _ _ _ _ _ (@Zad _ _ _ _ _ 1 _ _ Zao.nd (@Za0 _ _ _ _ _ _ _ _ _ _ _ _ _ _ Vx0 (hr.mono (by decide)) T.m_0 T.k_0 Wx0 (@Zm _ _ _ _ _ _ (Zc 0) (@Zm _ _ _ _ _ _ Zr Za7 (by rfl)) (by rfl)) (by rfl) (by decide) (by rfl) (by rfl)) (by rfl) (by trivial) (by rfl) (by trivial)) (@Zf _ _ _ _ _ _ (@Zad _ _ _ _ _ 2 _ _ Zao.nd (@Zcj _ _ _ _ _ _ _ Zr (@Zcy _ _ _ _ _ _ _ (@Za0 _ _ _ _ _ _ _ _ _ _ _ _ _ _ Vx0 (hr.mono (by decide)) T.m_0 T.k_0 Wx0 (@Zm _ _ _ _ _ _ (Zc 0) (@Zm _ _ _ _ _ _ Zr Za7 (by rfl)) (by rfl)) (by rfl) (by decide) (by rfl) (by rfl)) Zr)) (by rfl) (by trivial) (by rfl) (by trivial)) (@Zf _ _ _ _ _ _ (@Zad _ _ _ _ _ 3 _ _ Zao.nd (@Zie _ _ _ _ _ Zcq) (by rfl) (by trivial) (by rfl) (by trivial)) (@Zf _ _ _ _ _ _ (@Zad _ _ _ _ _ 4 _ _ Zao.nd (@Zie _ _ _ _ _ Zcq) (by rfl) (by trivial) (by rfl) (by trivial)) (@Zf _ _ _ _ _ _ (@Zfv _ _ _ _ _ _ _ _ _ PassesOwn.never rfl (@Zko _ _ _ _ _ (@e_sl _ _ _ _ _ _ _ _ _ _ (Zc 0) (@Zdr _ _ _ _ Zr) (@Zdr _ _ _ _ Zr))) (@Zaj _ _ _ 5 _ Zao.nd (by rfl) (by trivial) (by trivial)) (@Zf _ _ _ _ _ _ (@Zad _ _ _ _ _ 6 _ _ Zao.nd (@Za0 _ _ _ _ _ _ _ _ _ _ _ _ _ _ Vx2 (hr.mono (by decide)) T.m_2 T.k_2 Wx2 (@Zm _ _ _ _ _ _ (Zc 1) (@Zm _ _ _ _ _ _ (Zc 2) (@Zm _ _ _ _ _ _ (Zc 5) Za7 (by rfl)) (by rfl)) (by rfl)) (by rfl) (by decide) (by rfl) (by rfl)) (by rfl) (by trivial) (by rfl) (by trivial)) (@Zf _ _ _ _ _ _ (@Zad _ _ _ _ _ 7 _ _ Zao.nd (@Zcy _ _ _ _ _ _ _ (@Zg3 _ _ _ _ _ _ _ (Zc 5) Zr) (@Zcj _ _ _ _ _ _ _ (@Zkl _ _ _ _ _ _ T.z_len (Zc 3) (by rfl) (by rfl) (by rfl)) Zr)) (by rfl) (by trivial) (by rfl) (by trivial)) (@Zf _ _ _ _ _ _ (@Zad _ _ _ _ _ 8 _ _ Zao.nd (@Za0 _ _ _ _ _ _ _ _ _ _ _ _ _ _ Vx10 (hr.mono (by decide)) T.m_10 T.k_10 Wx10 (@Zm _ _ _ _ _ _ (Zc 3) (@Zm _ _ _ _ _ _ (Zc 6) (@Zm _ _ _ _ _ _ (Zc 7) Za7 (by rfl)) (by rfl)) (by rfl)) (by rfl) (by decide) (by rfl) (by rfl)) (by rfl) (by trivial) (by rfl) (by trivial)) (@Zf _ _ _ _ _ _ (@Zad _ _ _ _ _ 9 _ _ Zao.nd (@Za0 _ _ _ _ _ _ _ _ _ _ _ _ _ _ Vx7 (hr.mono (by decide)) T.m_7 T.k_7 Wx7 (@Zm _ _ _ _ _ _ (Zc 3) (@Zm _ _ _ _ _ _ (Zc 6) (@Zm _ _ _ _ _ _ (Zc 7) Za7 (by rfl)) (by rfl)) (by rfl)) (by rfl) (by decide) (by rfl) (by rfl)) (by rfl) (by trivial) (by rfl) (by trivial)) (@Zf _ _ _ _ _ _ (@Zad _ _ _ _ _ 10 _ _ Zao.nd (@Za0 _ _ _ _ _ _ _ _ _ _ _ _ _ _ Vx6 (hr.mono (by decide)) T.m_6 T.k_6 Wx6 (@Zm _ _ _ _ _ _ (Zc 9) Za7 (by rfl)) (by rfl) (by decide) (by rfl) (by rfl)) (by rfl) (by trivial) (by rfl) (by trivial)) (@Zf _ _ _ _ _ _ (@Zad _ _ _ _ _ 11 _ _ Zao.nd (@Zl3 _ _ _ _ _ _ T.z_list (Zc 4) (by rfl) (by rfl) (by rfl)) (by rfl) (by trivial) (by rfl) (by trivial)) (@Zf _ _ _ _ _ _ (@Zfv _ _ _ _ _ _ _ _ _ PassesOwn.never rfl (@Zko _ _ _ _ _ (Zc 8)) (@Zaj _ _ _ 12 _ Zao.nd (by rfl) (by trivial) (by trivial)) (@Zf _ _ _ _ _ _ (@Zop _ _ _ _ _ _ _ (Zc 12) (@Zom _ _ _ _ _ _ _ rfl (@Zbd _ _ _ _ _ _ (@Zaj _ _ _ 13 _ Zao.nd (by rfl) (by trivial) (by trivial)) (@Zbd _ _ _ _ _ _ (@Zaj _ _ _ 14 _ Zao.nd (by rfl) (by trivial) (by trivial)) (@Zbd _ _ _ _ _ _ (@Zaj _ _ _ 15 _ Zao.nd (by rfl) (by trivial) (by trivial)) (@Zbd _ _ _ _ _ _ (@Zaj _ _ _ 16 _ Zao.nd (by rfl) (by trivial) (by trivial)) Zjc (by rfl)) (by rfl)) (by rfl)) (by rfl)) (by rfl) (by rfl)) (by rfl) (by rfl) (by rfl)) (@Zf _ _ _ _ _ _ (@s_if _ _ _ _ _ _ _ _ _ (@PW.pt _ _ _ (@w_or _ _ _ _ _ _ _ _ (@Zhe _ _ _ _ _ _ _ hv (Zc 14) (@Zbl _ _ _ _ _ _ _ hu (Zc 11) (Zc 13) (by intro _ _;rfl))) (@Zyk _ _ _ _ _ (@Zyl _ _ _ _ _ (@Zym _ _ _ _ (@Za0 _ _ _ _ _ _ _ _ _ _ _ _ _ _ Vx11 (hr.mono (by decide)) T.m_11 T.k_11 Wx11 (@Zm _ _ _ _ _ _ (@Zbl _ _ _ _ _ _ _ hu (Zc 3) (Zc 13) (by intro _ _;rfl)) (@Zm _ _ _ _ _ _ (Zc 6) (@Zm _ _ _ _ _ _ (Zc 14) (@Zm _ _ _ _ _ _ (Zc 15) Za7 (by rfl)) (by rfl)) (by rfl)) (by rfl)) (by rfl) (by decide) (by rfl) (by rfl)) (by intro _;rfl)))))) (@Zn _ _ _ _ (@Zaz _ _ _ _ _ e_bl)) Zbb) (@Zn _ _ _ _ (@Zp8 _ _ _ _ _ _ _ 11 _ _ _ (Zc 13) (Zc 15) (by rfl) (by trivial) (by decide) (by decide) (by rfl) (by rfl) (by rfl) (by intro _;rfl))))) (by intro _;rfl)) (@Zf _ _ _ _ _ _ (@s_if _ _ _ _ _ _ _ _ _ (@Zp9 _ _ _ _ (@Zhe _ _ _ _ _ _ _ hv (@Zl4 _ _ _ _ _ _ _ _ _ _ _ _ _ _ _ rfl (Zcz (N':=["_law_one",".acc"]) (src:=[.own,.acc]) (by rfl) (by rfl) (by rfl) (by rfl) (by rfl) (by rfl)) (Zoo 1 (by rfl) (by rfl)) (by decide) (@Zko _ _ _ _ _ (Zc 8)) (fun _ _ _ _=>@xg _ _ _ (fun _=>(@Zaj _ _ _ 0 _ (show(["_law_one",".acc"]:List Str).Nodup by decide+kernel) (by rfl) (by trivial) (by trivial)))) (fun _ _ _ _=>xt0) (fun _ _ _ _=>@xe _ _ _ (fun _=>(@Zbl _ _ _ _ _ _ _ hu (Zc 0) Zr (by intro _ _;rfl)))) (by intro _;rfl)) (@Zzt _ _ _ _ _ _ _ _ rfl T.z_sorted T.z_set (@Zl4 _ _ _ _ _ _ _ _ _ _ _ _ _ _ _ rfl (Zcz (N':=["_law_one",".acc"]) (src:=[.own,.acc]) (by rfl) (by rfl) (by rfl) (by rfl) (by rfl) (by rfl)) (Zoo 1 (by rfl) (by rfl)) (by decide) (@Zko _ _ _ _ _ (Zc 8)) (fun _ _ _ _=>@xg _ _ _ (fun _=>(@Zaj _ _ _ 0 _ (show(["_law_one",".acc"]:List Str).Nodup by decide+kernel) (by rfl) (by trivial) (by trivial)))) (fun _ _ _ _=>xt0) (fun _ _ _ _=>@xe _ _ _ (fun _=>(@Zbl _ _ _ _ _ _ _ hu (Zc 0) Zr (by intro _ _;rfl)))) (by intro _;rfl)) (by rfl) (by rfl) (by rfl) (by rfl) (by rfl) (by rfl)))) (@Zn _ _ _ _ (@Zaz _ _ _ _ _ e_bl)) Zbb) (@Zf _ _ _ _ _ _ (@s_if _ _ _ _ _ _ _ _ _ (@Zp9 _ _ _ _ (@Zhe _ _ _ _ _ _ _ hv (@Zkl _ _ _ _ _ _ T.z_len (@Zl4 _ _ _ _ _ _ _ _ _ _ _ _ _ _ _ rfl (Zcz (N':=["_law_at","_law_told","_law_before",".acc"]) (src:=[.own,.cap 4,.cap 11,.acc]) (by rfl) (by rfl) (by rfl) (by rfl) (by rfl) (by rfl)) (Zoo 3 (by rfl) (by rfl)) (by decide) (@Zon _ _ _ _ _ _ _ T.z_range (@Zkl _ _ _ _ _ _ T.z_len (Zc 4) (by rfl) (by rfl) (by rfl)) (by rfl) (by rfl)) (fun _ _ _ _=>@xg _ _ _ (fun _=>(@Zaj _ _ _ 0 _ (show(["_law_at","_law_told","_law_before",".acc"]:List Str).Nodup by decide+kernel) (by rfl) (by trivial) (by trivial)))) (fun _ _ _ _=>@xt _ _ _ (fun _=>(@Zhe _ _ _ _ _ _ _ hv (@Zbl _ _ _ _ _ _ _ hu (Zc 1) (Zc 0) (by intro _ _;rfl)) (@Zbl _ _ _ _ _ _ _ hu (Zc 2) (Zc 0) (by intro _ _;rfl))))) (fun _ _ _ _=>@xe _ _ _ (fun _=>(Zc 0))) (by intro _;rfl)) (by rfl) (by rfl) (by rfl)) (@Zkl _ _ _ _ _ _ T.z_len (Zc 8) (by rfl) (by rfl) (by rfl)))) (@Zn _ _ _ _ (@Zaz _ _ _ _ _ e_bl)) Zbb) (@Zf _ _ _ _ _ _ (@s_if _ _ _ _ _ _ _ _ _ (@Zhe _ _ _ _ _ _ _ hv (Zc 11) (@Zcj _ _ _ _ _ _ _ (@e_sl _ _ _ _ _ _ _ _ _ _ (Zc 10) Zfb (@Zdr _ _ _ _ (Zc 7))) (@e_sl _ _ _ _ _ _ _ _ _ _ (Zc 10) (@Zdr _ _ _ _ (@Zcj _ _ _ _ _ _ _ (Zc 7) Zr)) Zfb))) (@Zn _ _ _ _ (@Zaz _ _ _ _ _ e_bl)) Zbb) (@Zf _ _ _ _ _ _ (@Zad _ _ _ _ _ 3 _ _ Zao.nd (Zc 9) (by rfl) (by trivial) (by rfl) (by trivial)) (@Zn _ _ _ _ (@Zad _ _ _ _ _ 4 _ _ Zao.nd (Zc 10) (by rfl) (by trivial) (by rfl) (by trivial)))))))))))))) (by intro _;rfl)) (@Zn _ _ _ _ (@Zaz _ _ _ _ _ e_bl)))))))
end
theorem Zwq{l:PySem.W.OpenLaw}{w:World}{K:PySem.W.Frag}{h:Heap}{mg:Str→Option Value}{tx0:Tok}{fa fx0 fx1 fx2 fx3 fx4 fx5 fx6 fx7 fx8 fx9 fx10 fx11 fx12:Addr}(X:K.In h)(G:h.Ns mainGlobals mg)(hfa:mg "law"=some (.ref fa))
  {odx12 anx12:Option Addr} {slx12:Array (Option Value)} {ocx12 kVx12 dcx12 pmx12 cdx12 ctx12:Value}
  (ax0:PySem.W.nsIn K mainGlobals "_law_cell_at"=some (some (.ref fx0))) (Fx0:∃fd,Fun K "_law_cell_at" "_law_cell_at" Zbf fx0 fd) (kx0:PySem.W.keepIn K (.ref fx0)=true)
  (ax1:PySem.W.nsIn K mainGlobals "_law_numbers"=some (some (.ref fx1))) (Fx1:∃fd,Fun K "_law_numbers" "_law_numbers" Zbg fx1 fd) (kx1:PySem.W.keepIn K (.ref fx1)=true)
  (ax2:PySem.W.nsIn K mainGlobals "_law_row"=some (some (.ref fx2))) (Fx2:∃fd,Fun K "_law_row" "_law_row" Zdg fx2 fd) (kx2:PySem.W.keepIn K (.ref fx2)=true)
  (ax3:PySem.W.nsIn K mainGlobals "rival"=some (some (.ref fx3))) (Fx3:∃fd,Fun K "rival" "rival" Zf6 fx3 fd) (kx3:PySem.W.keepIn K (.ref fx3)=true)
  (ax4:PySem.W.nsIn K mainGlobals "step_of"=some (some (.ref fx4))) (Fx4:∃fd,Fun K "step_of" "step_of" Zdh fx4 fd) (kx4:PySem.W.keepIn K (.ref fx4)=true)
  (ax5:PySem.W.nsIn K mainGlobals "letter"=some (some (.ref fx5))) (Fx5:∃fd,Fun K "letter" "letter" Zep fx5 fd) (kx5:PySem.W.keepIn K (.ref fx5)=true)
  (ax6:PySem.W.nsIn K mainGlobals "pointings"=some (some (.ref fx6))) (Fx6:∃fd,Fun K "pointings" "pointings" Zb2 fx6 fd) (kx6:PySem.W.keepIn K (.ref fx6)=true)
  (ax7:PySem.W.nsIn K mainGlobals "put_in"=some (some (.ref fx7))) (Fx7:∃fd,Fun K "put_in" "put_in" Zeq fx7 fd) (kx7:PySem.W.keepIn K (.ref fx7)=true)
  (ax8:PySem.W.nsIn K mainGlobals "letter_in"=some (some (.ref fx8))) (Fx8:∃fd,Fun K "letter_in" "letter_in" Zb3 fx8 fd) (kx8:PySem.W.keepIn K (.ref fx8)=true)
  (ax9:PySem.W.nsIn K mainGlobals "reason_of"=some (some (.ref fx9))) (Fx9:∃fd,Fun K "reason_of" "reason_of" Zb4 fx9 fd) (kx9:PySem.W.keepIn K (.ref fx9)=true)
  (ax10:PySem.W.nsIn K mainGlobals "changes"=some (some (.ref fx10))) (Fx10:∃fd,Fun K "changes" "changes" Zdi fx10 fd) (kx10:PySem.W.keepIn K (.ref fx10)=true)
  (ax11:PySem.W.nsIn K mainGlobals "_law_goes_on"=some (some (.ref fx11))) (Fx11:∃fd,Fun K "_law_goes_on" "_law_goes_on" Zbh fx11 fd) (kx11:PySem.W.keepIn K (.ref fx11)=true)
  (ax12:PySem.W.nsIn K mainGlobals "law"=some (some (.ref fx12))) (lx12:K.lookup fx12=some ⟨ocx12,odx12,.func (PySem.W.fnOf "law" "law" (Zc9 Zc3) (Zby Zc3) (Zk Zc3) .none kVx12 dcx12 pmx12 anx12 cdx12 ctx12),slx12⟩) (cx12:PySem.W.codeIn K cdx12 "law"=true) (kx12:PySem.W.keepIn K (.ref fx12)=true)
  (zenumerate:PySem.W.nsIn K mainGlobals "enumerate"=some none)
  (zlen:PySem.W.nsIn K mainGlobals "len"=some none)
  (zlist:PySem.W.nsIn K mainGlobals "list"=some none)
  (zrange:PySem.W.nsIn K mainGlobals "range"=some none)
  (zset:PySem.W.nsIn K mainGlobals "set"=some none)
  (zsorted:PySem.W.nsIn K mainGlobals "sorted"=some none)
  (zstr:PySem.W.nsIn K mainGlobals "str"=some none)
  (zx0:PySem.W.nsIn K mainGlobals "SMALL_LETTERS"=some (some (.str "abcdefghijklmnopqrstuvwxyz" tx0)))
  :∃fd:FuncData,(∀(s:Shared) (v:Value),BindsTo s fd ⟨[v],[]⟩ [("_law_script",v)])∧∀base:Heap,K.In base→base.Ns mainGlobals mg→FnOk l.prog w K mg base CX0 5 fa fd ["_law_script"] (spOf K 1 Zgb):=by
 have e:=hfa.symm.trans (PySem.W.mg_of X G ax12)
 cases e
 have T:Txt K mg tx0 fx0 fx1 fx2 fx3 fx4 fx5 fx6 fx7 fx8 fx9 fx10 fx11 _:=⟨PySem.W.mg_none_of X G zenumerate,PySem.W.mg_none_of X G zlen,PySem.W.mg_none_of X G zlist,PySem.W.mg_none_of X G zrange,PySem.W.mg_none_of X G zset,PySem.W.mg_none_of X G zsorted,PySem.W.mg_none_of X G zstr,PySem.W.mg_of X G zx0,PySem.W.mg_of X G ax0,kx0,PySem.W.mg_of X G ax1,kx1,PySem.W.mg_of X G ax2,kx2,PySem.W.mg_of X G ax3,kx3,PySem.W.mg_of X G ax4,kx4,PySem.W.mg_of X G ax5,kx5,PySem.W.mg_of X G ax6,kx6,PySem.W.mg_of X G ax7,kx7,PySem.W.mg_of X G ax8,kx8,PySem.W.mg_of X G ax9,kx9,PySem.W.mg_of X G ax10,kx10,PySem.W.mg_of X G ax11,kx11,PySem.W.mg_of X G ax12,kx12⟩
 obtain⟨_,Fx0⟩:=Fx0
 obtain⟨_,Fx1⟩:=Fx1
 obtain⟨_,Fx2⟩:=Fx2
 obtain⟨_,Fx3⟩:=Fx3
 obtain⟨_,Fx4⟩:=Fx4
 obtain⟨_,Fx5⟩:=Fx5
 obtain⟨_,Fx6⟩:=Fx6
 obtain⟨_,Fx7⟩:=Fx7
 obtain⟨_,Fx8⟩:=Fx8
 obtain⟨_,Fx9⟩:=Fx9
 obtain⟨_,Fx10⟩:=Fx10
 obtain⟨_,Fx11⟩:=Fx11
 have Fx12:=Zbj (st:=Zc3) lx12 cx12 kx12
 have bx0:=Fx0.binds (ps:=["_law_script","_law_k"]) fun _ _ _ _ _ _ us hl=>of2 (fun _ _=>rfl) us hl
 have bx1:=Fx1.binds (ps:=["_law_cell","_law_many"]) fun _ _ _ _ _ _ us hl=>of2 (fun _ _=>rfl) us hl
 have bx2:=Fx2.binds (ps:=["_law_sort","_law_steps","_law_cell"]) fun _ _ _ _ _ _ us hl=>of3 (fun _ _ _=>rfl) us hl
 have bx3:=Fx3.binds (ps:=["rows","place","step"]) fun _ _ _ _ _ _ us hl=>of3 (fun _ _ _=>rfl) us hl
 have bx4:=Fx4.binds (ps:=["rows","place"]) fun _ _ _ _ _ _ us hl=>of2 (fun _ _=>rfl) us hl
 have bx5:=Fx5.binds (ps:=["n"]) fun _ _ _ _ _ _ us hl=>of1 (fun _=>rfl) us hl
 have bx6:=Fx6.binds (ps:=["rows"]) fun _ _ _ _ _ _ us hl=>of1 (fun _=>rfl) us hl
 have bx7:=Fx7.binds (ps:=["rows","row","place"]) fun _ _ _ _ _ _ us hl=>of3 (fun _ _ _=>rfl) us hl
 have bx8:=Fx8.binds (ps:=["pointing"]) fun _ _ _ _ _ _ us hl=>of1 (fun _=>rfl) us hl
 have bx9:=Fx9.binds (ps:=["old","row"]) fun _ _ _ _ _ _ us hl=>of2 (fun _ _=>rfl) us hl
 have bx10:=Fx10.binds (ps:=["rows","row","place"]) fun _ _ _ _ _ _ us hl=>of3 (fun _ _ _=>rfl) us hl
 have bx11:=Fx11.binds (ps:=["_law_row_here","_law_new_row","_law_old","_law_new"]) fun _ _ _ _ _ _ us hl=>of4 (fun _ _ _ _=>rfl) us hl
 refine⟨PySem.W.fnOf "law" "law" (Zc9 Zc3) (Zby Zc3) (Zk Zc3) .none kVx12 dcx12 pmx12 anx12 cdx12 ctx12,fun s v=>.of_eq rfl,fun base kb nb=>?_⟩
 have Gx0:=Ze4 (P:=l.prog) (w:=w) (base:=base) T Fx0
 have Gx1:=Ze5 (P:=l.prog) (w:=w) (base:=base) T Fx1
 have Gx2:=Zkx (P:=l.prog) (w:=w) (base:=base) T Fx2 Gx1 bx1
 have Gx3:=Zph (P:=l.prog) (w:=w) (base:=base) T Fx3
 have Gx4:=Zky (P:=l.prog) (w:=w) (base:=base) T Fx4 Gx3 bx3
 have Gx5:=Zm6 (P:=l.prog) (w:=w) (base:=base) T Fx5
 have Gx6:=Zhq (P:=l.prog) (w:=w) (base:=base) T Fx6 Gx4 bx4 Gx5 bx5
 have Gx7:=Zm7 (P:=l.prog) (w:=w) (base:=base) T Fx7
 have Gx8:=Zhr (P:=l.prog) (w:=w) (base:=base) T Fx8
 have Gx9:=Zhs (P:=l.prog) (w:=w) (base:=base) T Fx9 Gx8 bx8
 have Gx10:=Zkz (P:=l.prog) (w:=w) (base:=base) T Fx10 Gx6 bx6 Gx7 bx7 Gx9 bx9
 have Gx11:=Ze6 (P:=l.prog) (w:=w) (base:=base) T Fx11
 exact Zwp T Fx12 Gx0 bx0 Gx2 bx2 Gx6 bx6 Gx7 bx7 Gx10 bx10 Gx11 bx11
theorem Zwr{K:PySem.W.Frag}{H:Hp}{a:Addr}{ns:List Int}(hn:Zgb [.lst (ns.map D.int)]=some (.fz (.bl true)))(hO:Only H)(hS:SqL K H a (ns.map V.int)):spOf K 1 Zgb [.ref a] H (fun v _=>v= .bl true) fun _ _ _=>False:=by
 refine⟨H,[.lst (ns.map D.int)],.fz (.bl true),Same.refl H,.cons (.lst hS (Zjd ns)) .nil,rfl,hn,fun v H' F' ms _ _ _ _ sh _ _=>?_⟩
 cases Zcv sh
 rfl
theorem walk{l:PySem.W.OpenLaw}{q:Program}{loose:List Str}{XP:(Str→Option Value)→Heap→Prop}{YP:World→Heap→Prop}{d:DefRec}{K:Params→PySem.W.Frag}(hn:l.most=some 63)(hdf:d.params.defaults=[])
  (hY:∀(w:World) (h:Heap),YP w h→(K w.params).In h)
  (F:∀(w:World) (mg:Str→Option Value) (fa:Addr) (h:Heap),(K w.params).In h→h.Ns mainGlobals mg→mg d.name=some (.ref fa)→
   ∃fd:FuncData,(∀(s:Shared) (u:Value),BindsTo s fd ⟨[u],[]⟩ [("_law_script",u)])∧∀base:Heap,(K w.params).In base→base.Ns mainGlobals mg→FnOk l.prog w (K w.params) mg base CX0 5 fa fd ["_law_script"] (spOf (K w.params) 1 Zgb))
  (hlaw:∀ns:List Int,ns.length≤63→Zgb [.lst (ns.map D.int)]=some (.fz (.bl true))):
  PySem.W.WalkO q loose XP YP l.row.toRowW d [] (fun f vs=>PySem.call f vs):=
 L2.Zoa (n:=63) (k:=5) (x:="_law_script") (CX:=CX0) (sp:=fun K=>spOf K 1 Zgb) hn (by decide) hdf ⟨rfl,by decide,by decide⟩ hY F (fun _ _ _ ns hl hO hS=>Zwr (hlaw ns hl) hO hS) fun _ _ _ _ z=>z
end Gen
namespace My
open DL PySem
noncomputable abbrev rowD(r:List Str):D:=.lst (r.map D.str)
noncomputable abbrev Zap(rows:List (List Str)):D:=.lst (rows.map rowD)
noncomputable def Zaq(place:Nat)(t:Str):Nat→List (List Str)→Option (Nat×Nat)
 |_,[]=>none
 |i,r::rs=>if i≠place∧t∈r then some (i,r.findIdx fun x=>decide (x=t))else Zaq place t (i+1) rs
noncomputable def rvD:Option (Nat×Nat)→D
 |none=>.non
 |some (o,k)=>.tup [.int (o:Int),.int (k:Int)]
theorem Zfl(a0 a2:Option SV)(place:Nat)(t:Str):∀(rs:List (List Str)) (i:Nat) (x4 x5:Option SV),
  match Zaq place t i rs with
  |some (o,k)=>forD (Zcw 2 (Z3 (Zg 4) (Z3 (Zg 5) (Zdc)))) Gen.Za9 (Zhm i (rs.map rowD)) [a0,some (.fz (.int (place:Int))),a2,some (.fz (.str t)),x4,x5]=some (.rt (.fz (.tup [.int (o:Int),.int (k:Int)])))
  |none=>∃δ,forD (Zcw 2 (Z3 (Zg 4) (Z3 (Zg 5) (Zdc)))) Gen.Za9 (Zhm i (rs.map rowD)) [a0,some (.fz (.int (place:Int))),a2,some (.fz (.str t)),x4,x5]=some (.nx δ)
 | [],i,x4,x5=>⟨_,rfl⟩
 |r::rs,i,x4,x5=>by
  have run:(Zcw 2 (Z3 (Zg 4) (Z3 (Zg 5) (Zdc)))).run (.tup [.int (i:Int),rowD r]) [a0,some (.fz (.int (place:Int))),a2,some (.fz (.str t)),x4,x5]=some [a0,some (.fz (.int (place:Int))),a2,some (.fz (.str t)),some (.fz (.int (i:Int))),some (.fz (rowD r))]:=by simp
  have fl:=Zc1 r
  have mem:=Zis t r
  have z2:2≤PySem.sizeLine:=Zae (by decide)
  unfold Zaq
  by_cases h:i≠place∧t∈r
  ·rw[if_pos h]
   have fi:=Zc2 t r h.2
   have hne:¬(i:Int)=(place:Int):=by omega
   have hne':¬i=place:=h.1
   have hm:=h.2
   show forD _ Gen.Za9 (.tup [.int (i:Int),rowD r]::Zhm (i+1) (rs.map rowD)) _=_
   refine Zm2 run ?_
   unfold Gen.Za9
   simp[-List.findIdx?_map,-List.all_map,hne,hne',fl,mem,hm,fi,z2]
  ·rw[if_neg h]
   have hb:Gen.Za9 [a0,some (.fz (.int (place:Int))),a2,some (.fz (.str t)),some (.fz (.int (i:Int))),some (.fz (rowD r))]=some (.nx [a0,some (.fz (.int (place:Int))),a2,some (.fz (.str t)),some (.fz (.int (i:Int))),some (.fz (rowD r))]):=by
    unfold Gen.Za9
    by_cases hi:i=place
    ·have hi':(i:Int)=(place:Int):=by omega
     simp[hi]
    ·have hne:¬(i:Int)=(place:Int):=by omega
     have hm:¬t∈r:=fun e=>h ⟨hi,e⟩
     simp[-List.all_map,hne,hi,fl,mem,hm]
   have ih:=Zfl a0 a2 place t rs (i+1) (some (.fz (.int (i:Int)))) (some (.fz (rowD r)))
   generalize Zaq place t (i+1) rs=o at ih⊢
   cases o with
   |none=>
    obtain⟨δ,e⟩:=ih
    exact⟨δ,(Zas run hb).trans e⟩
   |some p=>
    obtain⟨o,k⟩:=p
    exact(Zas run hb).trans ih
theorem Zpi{rows:List (List Str)}{place step:Nat}{r:List Str}{t:Str}(hp:rows[place]? =some r)(hs:r[step]? =some t):
  Gen.Zer [Zap rows,.int (place:Int),.int (step:Int)]=some (.fz (rvD (Zaq place t 0 rows))):=by
 have a1:L2.atI (rows.map rowD) (place:Int)=some (rowD r):=Zbw _ _ _ (by rw[List.getElem?_map,hp];rfl)
 have a2:L2.atI (r.map D.str) (step:Int)=some (.str t):=Zbw _ _ _ (by rw[List.getElem?_map,hs];rfl)
 have l:=Zfl (some (.fz (Zap rows))) (some (.fz (.int (step:Int)))) place t rows 0 none none
 generalize Zaq place t 0 rows=o at l⊢
 unfold Gen.Zer Gen.Zit
 cases o with
 |none=>
  obtain⟨δ,e⟩:=l
  simp[-forD,a1,a2,Zf5,e,rvD]
 |some p=>
  obtain⟨o,k⟩:=p
  simp[-forD,a1,a2,Zf5,l,rvD]
noncomputable def Z7(place:Nat)(rows:List (List Str)):Nat→List Str→Option Nat
 |_,[]=>none
 |s,t::ts=>if Zaq place t 0 rows=none then some s else Z7 place rows (s+1) ts
noncomputable def stD:Option Nat→D
 |none=>.non
 |some s=>.int (s:Int)
theorem Zht{rows:List (List Str)}{place:Nat}{r:List Str}(hp:rows[place]? =some r):∀(n s:Nat) (x2:Option SV),s+n=r.length→
  match Z7 place rows s (r.drop s)with
  |some k=>forD (Zg 2) Gen.Zah (nats s n) [some (.fz (Zap rows)),some (.fz (.int (place:Int))),x2]=some (.rt (.fz (.int (k:Int))))
  |none=>∃δ,forD (Zg 2) Gen.Zah (nats s n) [some (.fz (Zap rows)),some (.fz (.int (place:Int))),x2]=some (.nx δ)
 |0,s,x2,h=>by
  rw[List.drop_of_length_le (by omega)]
  exact⟨_,rfl⟩
 |n+1,s,x2,h=>by
  have hs:s<r.length:=by omega
  rw[List.drop_eq_getElem_cons hs]
  have hv:=Zpi (t:=r[s]) hp (List.getElem?_eq_getElem hs)
  unfold Z7
  by_cases hr:Zaq place r[s] 0 rows=none
  ·rw[if_pos hr]
   rw[hr]at hv
   show forD (Zg 2) Gen.Zah (.int (s:Int)::nats (s+1) n) _=_
   refine Zm2 (δ1:=[some (.fz (Zap rows)),some (.fz (.int (place:Int))),some (.fz (.int (s:Int)))]) (by simp) ?_
   unfold Gen.Zah
   simp[hv,rvD]
  ·rw[if_neg hr]
   have hb:Gen.Zah [some (.fz (Zap rows)),some (.fz (.int (place:Int))),some (.fz (.int (s:Int)))]=some (.nx [some (.fz (Zap rows)),some (.fz (.int (place:Int))),some (.fz (.int (s:Int)))]):=by
    unfold Gen.Zah
    generalize Zaq place r[s] 0 rows=o at hv hr
    cases o with
    |none=>exact absurd rfl hr
    |some p=>obtain⟨a,b⟩:=p;simp[hv,rvD]
   have ih:=Zht hp n (s+1) (some (.fz (.int (s:Int)))) (by omega)
   have run:(Zg 2).run (.int (s:Int)) [some (.fz (Zap rows)),some (.fz (.int (place:Int))),x2]=some [some (.fz (Zap rows)),some (.fz (.int (place:Int))),some (.fz (.int (s:Int)))]:=by simp
   generalize Z7 place rows (s+1) (r.drop (s+1))=o at ih⊢
   cases o with
   |none=>
    obtain⟨δ,e⟩:=ih
    exact⟨δ,(Zas (ds:=nats (s+1) n) run hb).trans e⟩
   |some k=>exact(Zas (ds:=nats (s+1) n) run hb).trans ih
theorem Zs0{rows:List (List Str)}{place:Nat}{r:List Str}(hp:rows[place]? =some r)(hl:r.length≤1000):
  Gen.Zb6 [Zap rows,.int (place:Int)]=some (.fz (stD (Z7 place rows 0 r))):=by
 have a1:L2.atI (rows.map rowD) (place:Int)=some (rowD r):=Zbw _ _ _ (by rw[List.getElem?_map,hp];rfl)
 have l:=Zht hp r.length 0 none (by omega)
 rw[List.drop_zero]at l
 have g1:rngP (r.length:Int):=Zfu (by omega)
 have et:((r.length:Int)).toNat=r.length:=by omega
 unfold Gen.Zb6 Gen.Zes
 generalize Z7 place rows 0 r=o at l⊢
 cases o with
 |none=>
  obtain⟨δ,e⟩:=l
  simp[-forD,a1,g1,et,Zbm,e,stD]
 |some k=>simp[-forD,a1,g1,et,Zbm,l,stD]
theorem Zbu{place:Nat}{t:Str}:∀{rs:List (List Str)} {i:Nat},Zaq place t i rs=none↔∀j r,rs[j]? =some r→i+j≠place→t∉r
 | [],i=>by simp[Zaq]
 |r::rs,i=>by
  unfold Zaq
  constructor
  ·intro h j r' hj hne hm
   split at h
   ·cases h
   ·rename_i hn
    cases j with
    |zero=>simp at hj;subst hj;exact hn ⟨by omega,hm⟩
    |succ j=>exact(Zbu.mp h) j r' (by simpa using hj) (by omega) hm
  ·intro h
   rw[if_neg fun⟨h1,h2⟩=>h 0 r (by simp) (by omega) h2]
   exact Zbu.mpr fun j r' hj hne=>h (j+1) r' (by simpa using hj) (by omega)
theorem Zac{place:Nat}{rows:List (List Str)}:∀{ts:List Str} {s k:Nat},Z7 place rows s ts=some k→s≤k∧(∃t,ts[k- s]? =some t∧Zaq place t 0 rows=none)∧∀j t,j<k- s→ts[j]? =some t→Zaq place t 0 rows≠none
 | [],s,k,h=>by cases h
 |t::ts,s,k,h=>by
  unfold Z7 at h
  split at h
  ·rename_i hr
   cases h
   exact⟨Nat.le_refl _,⟨t,by simp,hr⟩,fun j t' hj=>by omega⟩
  ·rename_i hr
   obtain⟨h1,⟨u,h2,h3⟩,h4⟩:=Zac h
   refine⟨by omega,⟨u,?_,h3⟩,fun j t' hj ht=>?_⟩
   ·rw[show k- s=(k- (s+1))+1 by omega];simpa using h2
   ·cases j with
    |zero=>simp at ht;subst ht;exact hr
    |succ j=>exact h4 j t' (by omega) (by simpa using ht)
theorem Zdl{place:Nat}{rows:List (List Str)}:∀{ts:List Str} {s:Nat},Z7 place rows s ts=none→∀t∈ts,Zaq place t 0 rows≠none
 | [],s,_,t,h=>nomatch h
 |u::ts,s,h,t,ht=>by
  unfold Z7 at h
  split at h
  ·cases h
  ·rename_i hr
   rcases List.mem_cons.mp ht with e|e
   ·rw[e];exact hr
   ·exact Zdl h t e
end My
namespace My
open DL PySem
noncomputable def dig(n:Nat):List Nat:=if h:n<26 then[97+n]else dig (n / 26- 1)++[97+n % 26]
termination_by n
theorem Zfm{n:Nat}(h:n<26):dig n=[97+n]:=by rw[dig,dif_pos h]
theorem Zhu{n:Nat}(h:¬n<26):dig n=dig (n / 26- 1)++[97+n % 26]:=by rw[dig,dif_neg h]
theorem Zpj(n:Nat):∃p,dig n=p++[97+n % 26]:=by
 by_cases h:n<26
 ·exact⟨[],by rw[Zfm h,Nat.mod_eq_of_lt h];rfl⟩
 ·exact⟨_,Zhu h⟩
theorem Zpk:∀(n c:Nat),c∈dig n→97≤c∧c<123:=fun n=>by
 induction n using Nat.strongRecOn with
 |ind n ih=>
  intro c hc
  by_cases h:n<26
  ·rw[Zfm h]at hc;simp at hc;omega
  ·rw[Zhu h]at hc
   rcases List.mem_append.mp hc with hc|hc
   ·exact ih _ (by omega) c hc
   ·simp at hc;omega
noncomputable def val:List Nat→Nat→Nat
 | [],v=>v
 |c::r,v=>val r (v*26+(c- 96))
theorem Zm8:∀(a b:List Nat) (v:Nat),val (a++b) v=val b (val a v)
 | [],_,_=>rfl
 |c::r,b,v=>Zm8 r b _
theorem Zm9(n:Nat):val (dig n) 0=n+1:=by
 induction n using Nat.strongRecOn with
 |ind n ih=>
  by_cases h:n<26
  ·rw[Zfm h];show 0*26+(97+n- 96)=n+1;omega
  ·rw[Zhu h,Zm8,ih _ (by omega)]
   show(n / 26- 1+1)*26+(97+n % 26- 96)=n+1
   omega
theorem Zs1{a b:Nat}(h:dig a=dig b):a=b:=by
 have h1:=Zm9 a
 rw[h,Zm9 b]at h1
 omega
theorem Zna(k:Nat):∀n,n<26^k→(dig n).length≤k+1:=by
  induction k with
  |zero=>
    intro n h
    have:n=0:=by simpa using h
    subst this
    rw[Zfm (by decide)]
    simp
  |succ k ih=>
    intro n h
    by_cases h26:n<26
    · rw[Zfm h26];simp
    · rw[Zhu h26,List.length_append,List.length_singleton]
      rw[Nat.pow_succ]at h
      have:=ih (n / 26- 1) (by omega)
      omega
noncomputable abbrev ABC:Str:="abcdefghijklmnopqrstuvwxyz"
theorem Zws:∀j<26,ABC.cps.toList[j]? =some (97+j):=by decide+kernel
theorem Zwt(n:Nat):L2.atI ABC.cps.toList ((n:Int) % 26)=some (97+n % 26):=by
 have e:((n:Int) % 26)=((n % 26:Nat):Int):=by omega
 rw[e]
 exact Zbw _ _ _ (Zws _ (Nat.mod_lt _ (by decide)))
theorem Zs2:ABC.length≤PySem.sizeLine:=by decide+kernel
theorem Zzw(c:Nat)(t:List Nat):(⟨#[c]⟩:Str)++S t=S (c::t):=by
 show(⟨#[c]++t.toArray⟩:Str)=_
 simp
theorem Zds(a:Option SV):∀(k n:Nat) (t:List Nat) (fuel:Nat),n<26^k→k+2≤fuel→t.length+k+1≤1000→
  Zb1 Gen.Zbn Gen.Zcf fuel [a,some (.fz (.str (S t))),some (.fz (.int (n:Int)))]=some (.nx [a,some (.fz (.str (S (dig n++t)))),some (.fz (.int (-1)))])
 |k,n,t,0,_,h,_=>by omega
 |k,n,t,fuel+1,hn,hf,ht=>by
  have h1:Gen.Zbn [a,some (.fz (.str (S t))),some (.fz (.int (n:Int)))]=some (true,[a,some (.fz (.str (S t))),some (.fz (.int (n:Int)))]):=by
   unfold Gen.Zbn
   simp
  have z1:(⟨#[97+n % 26]⟩:Str).length+(S t).length≤PySem.sizeLine:=by rw[Zpe];exact Zae (by show 1+t.length≤_;omega)
  have h2:Gen.Zcf [a,some (.fz (.str (S t))),some (.fz (.int (n:Int)))]=some (.nx [a,some (.fz (.str (S ((97+n % 26)::t)))),some (.fz (.int ((n:Int) / 26- 1)))]):=by
   unfold Gen.Zcf
   simp[Zwt,Zs2,z1,Zzw]
  rw[Zm3 h1 h2]
  by_cases h:n<26
  ·have e:(n:Int) / 26- 1=-1:=by omega
   rw[e,Zfm h,Nat.mod_eq_of_lt h]
   cases fuel with
   |zero=>omega
   |succ fuel=>
    refine Zkw (δ1:=_) ?_
    unfold Gen.Zbn
    simp
  ·have e:(n:Int) / 26- 1=((n / 26- 1:Nat):Int):=by omega
   rw[e,Zhu h,List.append_assoc]
   cases k with
   |zero=>simp at hn;omega
   |succ k=>
    rw[Nat.pow_succ]at hn
    exact Zds a k (n / 26- 1) ((97+n % 26)::t) fuel (by omega) (by omega) (by simp;omega)
theorem Znb(n:Nat)(h:n<26^50):Gen.Zc4 [.int (n:Int)]=some (.fz (.str (S (dig n)))):=by
 have w:=Zds (some (.fz (.int (n:Int)))) 50 n [] 1000 h (by decide) (by decide)
 rw[List.append_nil]at w
 unfold Gen.Zc4 Gen.Zf7
 have e:(Str.ofString "")=S []:=rfl
 simp[e]
 rw[w]
 simp
noncomputable def Zj(r:List Str):Str:=r.getLastD ""
noncomputable def Zeu(rows:List (List Str)):Nat→List (List Str)→List Str→List Str
 |_,[],_=>[]
 |i,r::rs,ls=>match Z7 i rows 0 r with
  |some k=>r.getD k ""::Zeu rows (i+1) rs ls
  |none=>(Zj r++Str.ofString "^"++S (dig (ls.count (Zj r))))::Zeu rows (i+1) rs (Zj r::ls)
noncomputable def Cnt(ks:List L2.Key)(vs:List D)(ls:List Str):Prop:=ks.length=vs.length∧vs.length≤ls.length∧∀x:Str,look ks vs (.inr x)=if ls.count x=0 then none else some (.int (ls.count x:Nat))
theorem Zs3{ks:List L2.Key}{vs:List D}{ls:List Str}(h:Cnt ks vs ls)(x:Str):Cnt (putA ks vs (.inr x) (.int ((ls.count x+1:Nat):Int))).1 (putA ks vs (.inr x) (.int ((ls.count x+1:Nat):Int))).2 (x::ls):=by
 have pl:=Zsw (.inr x:L2.Key) (.int ((ls.count x+1:Nat):Int)) ks vs h.1
 refine⟨pl.1,by rw[List.length_cons];exact Nat.le_trans pl.2 (by have:=h.2.1;omega),fun y=>?_⟩
 rw[Zpf _ _ _ _ _ h.1]
 by_cases e:x=y
 ·subst e
  rw[if_pos rfl,List.count_cons_self,if_neg (by omega)]
 ·rw[if_neg fun z=>e (Sum.inr.inj z),h.2.2 y,List.count_cons_of_ne e]
theorem Zj1{r:List Str}(h:r≠[]):L2.atI (r.map D.str) (-1)=some (.str (Zj r)):=by
 rcases List.eq_nil_or_concat r with e|⟨q,x,e⟩
 ·exact absurd e h
 ·rw[List.concat_eq_append]at e
  subst e
  rw[List.map_append]
  have:=Zsv (q.map D.str) (.str x)
  rw[show List.map D.str [x]=[.str x]from rfl,this]
  unfold Zj
  simp
theorem Zgc(rows:List (List Str))(hl:rows.length≤100)(hr:∀r∈rows,r≠[]∧r.length≤6∧∀t∈r,t.length≤10000000):∀(rs:List (List Str)) (i:Nat) (ts:List Str) (ks:List L2.Key) (vs:List D) (ls:List Str) (x3 x4 x5 x6:Option SV),
  rows.drop i=rs→Cnt ks vs ls→ls.length≤i→ts.length≤i→
  ∃δ,forD (Zcw 2 (Z3 (Zg 3) (Z3 (Zg 4) (Zdc)))) Gen.Zab (Zhm i (rs.map rowD)) [some (.fz (Zap rows)),some (.ol (ts.map D.str)),some (.oK ks vs),x3,x4,x5,x6]=some (.nx δ)∧δ[1]? =some (some (.ol ((ts++Zeu rows i rs ls).map D.str)))
 | [],i,ts,ks,vs,ls,x3,x4,x5,x6,_,_,_,_=>⟨_,rfl,by simp[Zeu]⟩
 |r::rs,i,ts,ks,vs,ls,x3,x4,x5,x6,hd,hc,hls,hts=>by
  have hi:i<rows.length:=by
   have:=congrArg List.length hd
   rw[List.length_drop,List.length_cons]at this
   omega
  rw[List.drop_eq_getElem_cons hi]at hd
  have hri:rows[i]=r:=(List.cons.inj hd).1
  have hds:rows.drop (i+1)=rs:=(List.cons.inj hd).2
  have hp:rows[i]? =some r:=by rw[List.getElem?_eq_getElem hi,hri]
  obtain⟨hne,h6,hlen⟩:=hr r (by rw[←hri];exact List.getElem_mem hi)
  have st:=Zs0 hp (by omega)
  have la:=Zj1 hne
  have zt:ts.length<PySem.sizeLine:=Zbe (by omega)
  have run:(Zcw 2 (Z3 (Zg 3) (Z3 (Zg 4) (Zdc)))).run (.tup [.int (i:Int),rowD r]) [some (.fz (Zap rows)),some (.ol (ts.map D.str)),some (.oK ks vs),x3,x4,x5,x6]=some [some (.fz (Zap rows)),some (.ol (ts.map D.str)),some (.oK ks vs),some (.fz (.int (i:Int))),some (.fz (rowD r)),x5,x6]:=by simp
  cases hs:Z7 i rows 0 r with
  |none=>
   rw[hs]at st
   have zv:vs.length<PySem.sizeLine:=Zbe (by have:=hc.2.1;omega)
   have hll:(Zj r).length≤10000000:=by
    rcases List.eq_nil_or_concat r with e|⟨q,x,e⟩
    ·exact absurd e hne
    ·have:Zj r=x:=by unfold Zj;rw[e,List.concat_eq_append];simp
     rw[this];exact hlen x (by rw[e];simp)
   have hcn:ls.count (Zj r)≤100:=by have:=List.count_le_length (a:=Zj r) (l:=ls);omega
   have lt:=Znb (ls.count (Zj r)) (Nat.lt_of_le_of_lt hcn (by decide))
   have dl:=Zna 50 (ls.count (Zj r)) (Nat.lt_of_le_of_lt hcn (by decide))
   have c1:(Str.ofString "^").length=1:=rfl
   have z1:(Zj r).length+(Str.ofString "^").length≤PySem.sizeLine:=Zae (by rw[c1];omega)
   have z2:(Zj r++Str.ofString "^").length+(S (dig (ls.count (Zj r)))).length≤PySem.sizeLine:=Zae (by rw[Zcr,Zpe (dig _),c1];omega)
   have lk:=hc.2.2 (Zj r)
   have e1:((ls.count (Zj r)+1:Nat):Int)=((ls.count (Zj r):Nat):Int)+1:=by omega
   have hb:Gen.Zab [some (.fz (Zap rows)),some (.ol (ts.map D.str)),some (.oK ks vs),some (.fz (.int (i:Int))),some (.fz (rowD r)),x5,x6]=some (.nx [some (.fz (Zap rows)),some (.ol ((ts++[Zj r++Str.ofString "^"++S (dig (ls.count (Zj r)))]).map D.str)),some (.oK (putA ks vs (.inr (Zj r)) (.int ((ls.count (Zj r)+1:Nat):Int))).1 (putA ks vs (.inr (Zj r)) (.int ((ls.count (Zj r)+1:Nat):Int))).2),some (.fz (.int (i:Int))),some (.fz (rowD r)),some (.fz .non),some (.fz (.int (ls.count (Zj r):Nat)))]):=by
    rw[e1]
    unfold Gen.Zab
    by_cases h0:ls.count (Zj r)=0
    ·rw[if_pos h0]at lk
     rw[h0]at lt z2⊢
     have i0:((0:Nat):Int)=0:=rfl
     rw[i0]at lt
     simp[-putA,st,stD,la,lk,zv,z1,z2,zt,lt]
    ·rw[if_neg h0]at lk
     simp[-putA,st,stD,la,lk,zv,z1,z2,zt,lt]
   obtain⟨δ,e,hδ⟩:=Zgc rows hl hr rs (i+1) (ts++[Zj r++Str.ofString "^"++S (dig (ls.count (Zj r)))]) _ _ (Zj r::ls) (some (.fz (.int (i:Int)))) (some (.fz (rowD r))) (some (.fz .non)) (some (.fz (.int (ls.count (Zj r):Nat)))) hds (Zs3 hc (Zj r)) (by rw[List.length_cons];omega) (by rw[List.length_append,List.length_singleton];omega)
   refine⟨δ,(Zas run hb).trans e,?_⟩
   rw[hδ]
   simp[Zeu,hs]
  |some k=>
   rw[hs]at st
   obtain⟨_,⟨t,h2,_⟩,_⟩:=Zac hs
   rw[Nat.sub_zero]at h2
   have b2:L2.atI (r.map D.str) (k:Int)=some (.str t):=Zbw _ _ _ (by rw[List.getElem?_map,h2];rfl)
   have hb:Gen.Zab [some (.fz (Zap rows)),some (.ol (ts.map D.str)),some (.oK ks vs),some (.fz (.int (i:Int))),some (.fz (rowD r)),x5,x6]=some (.nx [some (.fz (Zap rows)),some (.ol ((ts++[t]).map D.str)),some (.oK ks vs),some (.fz (.int (i:Int))),some (.fz (rowD r)),some (.fz (.int (k:Int))),x6]):=by
    unfold Gen.Zab
    simp[st,stD,b2,zt]
   obtain⟨δ,e,hδ⟩:=Zgc rows hl hr rs (i+1) (ts++[t]) _ _ ls (some (.fz (.int (i:Int)))) (some (.fz (rowD r))) (some (.fz (.int (k:Int)))) x6 hds hc (by omega) (by rw[List.length_append,List.length_singleton];omega)
   refine⟨δ,(Zas run hb).trans e,?_⟩
   rw[hδ]
   simp[Zeu,hs,h2]
theorem Zwu(rows:List (List Str))(hl:rows.length≤100)(hr:∀r∈rows,r≠[]∧r.length≤6∧∀t∈r,t.length≤10000000):Gen.Zv [Zap rows]=some (.ol ((Zeu rows 0 rows []).map D.str)):=by
 obtain⟨δ,e,hδ⟩:=Zgc rows hl hr rows 0 [] [] [] [] none none none none (List.drop_zero ..) ⟨rfl,Nat.le_refl _,fun x=>by simp⟩ (Nat.le_refl _) (Nat.le_refl _)
 simp only[List.map_nil,List.nil_append]at e hδ
 unfold Gen.Zv Gen.Zcs
 simp[-forD,Zf5,e,hδ]
noncomputable def Num(x:Int):Prop:=0≤x∧x<2147483647
theorem Zqk{m:Int}(h:0<m∧m≤2147483647)(x:Int):Num (x % m):=⟨Int.emod_nonneg _ (by omega),Int.lt_of_lt_of_le (Int.emod_lt_of_pos _ h.1) h.2⟩
theorem Zc5(a b:Option SV):∀(n s:Nat) (ms:List Int) (x:Int) (y:Option SV),(∀m∈ms,Num m)→ms.length+n≤1000→
  ∃(ms':List Int) (x':Int) (y':Option SV),forD (Zg 4) Gen.Zal (nats s n) [a,b,some (.ol (ms.map D.int)),some (.fz (.int x)),y]=some (.nx [a,b,some (.ol (ms'.map D.int)),some (.fz (.int x')),y'])∧(∀m∈ms',Num m)∧ms'.length=ms.length+n
 |0,s,ms,x,y,h,_=>⟨ms,x,y,rfl,h,rfl⟩
 |n+1,s,ms,x,y,h,hl=>by
  have z:ms.length<PySem.sizeLine:=Zbe (by omega)
  have hb:Gen.Zal [a,b,some (.ol (ms.map D.int)),some (.fz (.int x)),some (.fz (.int (s:Int)))]=some (.nx [a,b,some (.ol ((ms++[x % 5040]).map D.int)),some (.fz (.int (x / 5040))),some (.fz (.int (s:Int)))]):=by
   unfold Gen.Zal
   simp[z]
  obtain⟨ms',x',y',e,h1,h2⟩:=Zc5 a b n (s+1) (ms++[x % 5040]) (x / 5040) (some (.fz (.int (s:Int)))) (fun m hm=>by
   rcases List.mem_append.mp hm with hm|hm
   ·exact h m hm
   ·rw[List.mem_singleton.mp hm];exact Zqk (by decide) _) (by rw[List.length_append,List.length_singleton];omega)
  refine⟨ms',x',y',(Zas (ds:=nats (s+1) n) (by simp) hb).trans e,h1,by rw[h2,List.length_append,List.length_singleton];omega⟩
theorem Zc6(a b:Option SV):∀(n s:Nat) (ms:List Int) (x:Int) (y:Option SV),(∀m∈ms,Num m)→ms.length+n≤1000→
  ∃(ms':List Int) (x':Int) (y':Option SV),forD (Zg 4) Gen.Zam (nats s n) [a,b,some (.ol (ms.map D.int)),some (.fz (.int x)),y]=some (.nx [a,b,some (.ol (ms'.map D.int)),some (.fz (.int x')),y'])∧(∀m∈ms',Num m)∧ms'.length=ms.length+n
 |0,s,ms,x,y,h,_=>⟨ms,x,y,rfl,h,rfl⟩
 |n+1,s,ms,x,y,h,hl=>by
  have z:ms.length<PySem.sizeLine:=Zbe (by omega)
  have hb:Gen.Zam [a,b,some (.ol (ms.map D.int)),some (.fz (.int x)),some (.fz (.int (s:Int)))]=some (.nx [a,b,some (.ol ((ms++[(x+(s:Int)+1)*48271 % 2147483647*69621 % 2147483629]).map D.int)),some (.fz (.int ((x+(s:Int)+1)*48271 % 2147483647))),some (.fz (.int (s:Int)))]):=by
   have hm:=Zp6 (i:=x+(s:Int)+1) (j:=48271) (by omega)
   have hm2:=Zp6 (i:=(x+(s:Int)+1)*48271 % 2147483647) (j:=69621) (by omega)
   unfold Gen.Zam
   simp[hm,hm2,z]
  obtain⟨ms',x',y',e,h1,h2⟩:=Zc6 a b n (s+1) (ms++[(x+(s:Int)+1)*48271 % 2147483647*69621 % 2147483629]) ((x+(s:Int)+1)*48271 % 2147483647) (some (.fz (.int (s:Int)))) (fun m hm=>by
   rcases List.mem_append.mp hm with hm|hm
   ·exact h m hm
   ·rw[List.mem_singleton.mp hm];exact Zqk (by decide) _) (by rw[List.length_append,List.length_singleton];omega)
  refine⟨ms',x',y',(Zas (ds:=nats (s+1) n) (by simp) hb).trans e,h1,by rw[h2,List.length_append,List.length_singleton];omega⟩
theorem Zk0(c:Int)(n:Nat)(h:n≤1000):∃ms:List Int,Gen.Zaa [.int c,.int (n:Int)]=some (.ol (ms.map D.int))∧(∀m∈ms,Num m)∧ms.length=n:=by
 have g1:rngP (n:Int):=Zfu (by omega)
 have et:((n:Int)).toNat=n:=by omega
 by_cases hc:c % 2=1
 ·obtain⟨ms,x',y',e,h1,h2⟩:=Zc5 (some (.fz (.int c))) (some (.fz (.int (n:Int)))) n 0 [] (c / 2) none (fun _ h=>nomatch h) (by simpa using h)
  refine⟨ms,?_,h1,by simpa using h2⟩
  simp only[List.map_nil]at e
  unfold Gen.Zaa Gen.Za3
  simp[-forD,g1,et,Zbm,e,hc]
 ·obtain⟨ms,x',y',e,h1,h2⟩:=Zc6 (some (.fz (.int c))) (some (.fz (.int (n:Int)))) n 0 [] (c / 2 % 2147483647) none (fun _ h=>nomatch h) (by simpa using h)
  refine⟨ms,?_,h1,by simpa using h2⟩
  simp only[List.map_nil]at e
  unfold Gen.Zaa Gen.Za3
  simp[-forD,g1,et,Zbm,e,hc]
theorem Znc(ns:List Int)(k:Nat):∃c:Int,Gen.Z1 [.lst (ns.map D.int),.int (k:Int)]=some (.fz (.int c)):=by
 by_cases h:k<ns.length
 ·have a:L2.atI (ns.map D.int) (k:Int)=some (.int ns[k]):=Zbw _ _ _ (by rw[List.getElem?_map,List.getElem?_eq_getElem h];rfl)
  refine⟨ns[k],?_⟩
  have h':(k:Int)<(ns.length:Int):=by omega
  unfold Gen.Z1 Gen.Za2
  simp[h',h,a]
 ·refine⟨0,?_⟩
  have h':¬(k:Int)<(ns.length:Int):=by omega
  unfold Gen.Z1 Gen.Za2
  simp[h',h]
end My
namespace My
open DL PySem
noncomputable def Zb8(t:Str):Prop:=94∉t.cps.toList
theorem Zhv{a b:Str}(ha:Zb8 a)(hb:Zb8 b):Zb8 (a++b):=by
 unfold Zb8 at*
 have e:(a++b).cps.toList=a.cps.toList++b.cps.toList:=by
  show(a.cps++b.cps).toList=_
  simp
 rw[e,List.mem_append]
 exact fun h=>h.elim ha hb
theorem Znd:∀n:Nat,n<41→94∉(Str.ofString (toString (n:Int))).cps.toList:=by decide+kernel
theorem Zne(i:Int)(h0:0≤i)(h1:i<41):Zb8 (Str.ofString (toString i)):=by
 obtain⟨n,rfl⟩:=Int.eq_ofNat_of_zero_le h0
 exact Znd n (by omega)
noncomputable abbrev LEE:Str:="Lee"
noncomputable abbrev KIM:Str:="Kim "
theorem Znf:Zb8 LEE:=by unfold Zb8;decide+kernel
theorem Zng:Zb8 KIM:=by unfold Zb8;decide+kernel
theorem Zs4:KIM.length=4:=by decide+kernel
theorem Zs5:LEE.length=3:=by decide+kernel
theorem Zk1:Zb8 (Str.ofString "the same"):=by unfold Zb8;decide+kernel
noncomputable abbrev AB3:Str:="abc"
theorem Zs6:AB3.length≤PySem.sizeLine:=by decide+kernel
theorem Zs7:∀c∈AB3.cps.toList,c≠94:=by decide+kernel
theorem Znh{c:Nat}(h:c≠94):Zb8 ⟨#[c]⟩:=by
 unfold Zb8
 intro hm
 have:94∈[c]:=by simpa using hm
 exact h (List.mem_singleton.mp this).symm
theorem Zs8(i:Int)(h0:0≤i)(h:i<1000000):(Str.ofString (toString i)).length≤1000002:=by
 have:=PyProof.Rows.len_str_of_int i
 omega
noncomputable def Good(t:Str):Prop:=Zb8 t∧t.length≤2000000
theorem Zgd(so many:Int)(a1 a2:Option SV)(hm:0<many∧many≤41):∀(ms:List Int) (r:List Str) (t:Str) (y:Option SV),r.length+ms.length≤1000→t.length+ms.length≤1000→Zb8 t→(∀x∈r,Good x)→
  ∃(r':List Str) (t':Str) (y':Option SV),forD (Zg 6) Gen.Zat (ms.map D.int) [some (.fz (.int so)),a1,a2,some (.fz (.int many)),some (.ol (r.map D.str)),some (.fz (.str t)),y]=some (.nx [some (.fz (.int so)),a1,a2,some (.fz (.int many)),some (.ol (r'.map D.str)),some (.fz (.str t')),y'])∧r'.length=r.length+ms.length∧∀x∈r',Good x
 | [],r,t,y,_,_,_,hr=>⟨r,t,y,rfl,rfl,hr⟩
 |m::ms,r,t,y,h1,h2,ht,hr=>by
  rw[List.length_cons]at h1 h2
  have z:r.length<PySem.sizeLine:=Zbe (by omega)
  have run:(Zg 6).run (.int m) [some (.fz (.int so)),a1,a2,some (.fz (.int many)),some (.ol (r.map D.str)),some (.fz (.str t)),y]=some [some (.fz (.int so)),a1,a2,some (.fz (.int many)),some (.ol (r.map D.str)),some (.fz (.str t)),some (.fz (.int m))]:=by simp
  obtain⟨c,hcm,hc⟩:=Zwo AB3.cps.toList m 3 (by decide+kernel) (by decide)
  have m0:0≤m % many:=Int.emod_nonneg _ (by omega)
  have m1:m % many<many:=Int.emod_lt_of_pos _ hm.1
  have lg:=Zm5 (m % many) m0 (by omega)
  have sl:=Zs8 (m % many) m0 (by omega)
  have kl:=Zs4
  have z2:KIM.length+(Str.ofString (m % many).repr).length≤PySem.sizeLine:=Zae (show KIM.length+(Str.ofString (toString (m % many))).length≤_ by omega)
  have z3:t.length+(⟨#[c]⟩:Str).length≤PySem.sizeLine:=Zae (by show t.length+1≤_;omega)
  by_cases hs:so % 3=0
  ·have hb:Gen.Zat [some (.fz (.int so)),a1,a2,some (.fz (.int many)),some (.ol (r.map D.str)),some (.fz (.str t)),some (.fz (.int m))]=some (.nx [some (.fz (.int so)),a1,a2,some (.fz (.int many)),some (.ol ((r++[t++⟨#[c]⟩]).map D.str)),some (.fz (.str (t++⟨#[c]⟩))),some (.fz (.int m))]):=by
    unfold Gen.Zat
    simp[hs,hc,Zs6,z3,z]
   have hg:=Zhv ht (Znh (Zs7 c hcm))
   have hgl:(t++(⟨#[c]⟩:Str)).length=t.length+1:=by rw[Zcr];rfl
   obtain⟨r',t',y',e,hl,hr'⟩:=Zgd so many a1 a2 hm ms (r++[t++⟨#[c]⟩]) (t++⟨#[c]⟩) (some (.fz (.int m))) (by rw[List.length_append,List.length_singleton];omega) (by rw[hgl];omega) hg (fun x hx=>by
    rcases List.mem_append.mp hx with hx|hx
    ·exact hr x hx
    ·rw[List.mem_singleton.mp hx];exact⟨hg,by omega⟩)
   exact⟨r',t',y',(Zas run hb).trans e,by rw[hl,List.length_append,List.length_singleton,List.length_cons];omega,hr'⟩
  ·have hb:Gen.Zat [some (.fz (.int so)),a1,a2,some (.fz (.int many)),some (.ol (r.map D.str)),some (.fz (.str t)),some (.fz (.int m))]=some (.nx [some (.fz (.int so)),a1,a2,some (.fz (.int many)),some (.ol ((r++[KIM++Str.ofString (m % many).repr]).map D.str)),some (.fz (.str t)),some (.fz (.int m))]):=by
    unfold Gen.Zat
    simp[hs,hm.1,lg,z2,z]
   obtain⟨r',t',y',e,hl,hr'⟩:=Zgd so many a1 a2 hm ms (r++[KIM++Str.ofString (m % many).repr]) t (some (.fz (.int m))) (by rw[List.length_append,List.length_singleton];omega) (by omega) ht (fun x hx=>by
    rcases List.mem_append.mp hx with hx|hx
    ·exact hr x hx
    ·rw[List.mem_singleton.mp hx]
     refine⟨Zhv Zng (Zne _ m0 (by omega)),?_⟩
     rw[Zcr]
     show KIM.length+(Str.ofString (toString (m % many))).length≤_
     omega)
   exact⟨r',t',y',(Zas run hb).trans e,by rw[hl,List.length_append,List.length_singleton,List.length_cons];omega,hr'⟩
theorem Zwv(so:Int)(n:Nat)(hn:n≤6)(hn1:1≤n)(c:Int):∃r:List Str,Gen.Zay [.int so,.int (n:Int),.int c]=some (.ol (r.map D.str))∧r.length=n∧∀x∈r,Good x:=by
 have m0:0≤so / 3 % 19:=Int.emod_nonneg _ (by decide)
 have m1:so / 3 % 19<19:=Int.emod_lt_of_pos _ (by decide)
 have h3:=Zs5
 obtain⟨ms,e1,_,e3⟩:=Zk0 c n (by omega)
 obtain⟨r,t',y',e,hr,hg⟩:=Zgd so (2+so / 3 % 19) (some (.fz (.int (n:Int)))) (some (.fz (.int c))) (by omega) ms [] LEE none (by simp;omega) (by omega) Znf (fun _ h=>nomatch h)
 simp only[List.map_nil,List.length_nil,Nat.zero_add]at e hr
 have hrn:r.length=n:=by omega
 have ix:L2.ixN r.length (-1)=some (n- 1):=by
  unfold L2.ixN
  rw[hrn,if_neg (by decide),if_pos (by omega)]
  congr 1;omega
 by_cases hs:so % 3=2
 ·by_cases hc:0<c % 4
  ·refine⟨r.set (n- 1) (Str.ofString "the same"),?_,by rw[List.length_set];exact hrn,fun x hx=>?_⟩
   ·unfold Gen.Zay Gen.Zb5
    simp[-forD,e1,e,hs,hc,ix]
   ·rcases List.mem_or_eq_of_mem_set hx with hx|hx
    ·exact hg x hx
    ·rw[hx];exact⟨Zk1,by decide+kernel⟩
  ·refine⟨r,?_,hrn,hg⟩
   unfold Gen.Zay Gen.Zb5
   simp[-forD,e1,e,hs,hc]
 ·refine⟨r,?_,hrn,hg⟩
  unfold Gen.Zay Gen.Zb5
  simp[-forD,e1,e,hs]
end My
namespace My
open DL PySem
noncomputable abbrev HAT:Str:="^"
theorem Zj2:Sep HAT 94 0:=⟨by decide+kernel,fun j h=>by
 have:HAT.cps.toList=[94]:=by decide+kernel
 rw[this]at h
 cases j with
 |zero=>rfl
 |succ j=>simp at h⟩
noncomputable def lsAt(rows:List (List Str)):Nat→List Str
 |0=>[]
 |i+1=>match rows[i]? with
  |some r=>if Z7 i rows 0 r=none then Zj r::lsAt rows i else lsAt rows i
  |none=>lsAt rows i
noncomputable def pt(rows:List (List Str))(i:Nat)(r:List Str):Str:=match Z7 i rows 0 r with
 |some k=>r.getD k ""
 |none=>Zj r++HAT++S (dig ((lsAt rows i).count (Zj r)))
theorem Ziw(rows:List (List Str)):∀(n i:Nat),i+n=rows.length→(Zeu rows i (rows.drop i) (lsAt rows i)).length=n∧∀j r,rows[i+j]? =some r→(Zeu rows i (rows.drop i) (lsAt rows i))[j]? =some (pt rows (i+j) r)
 |0,i,h=>by
  rw[List.drop_of_length_le (by omega)]
  refine⟨rfl,fun j r hj=>?_⟩
  have:=(List.getElem?_eq_some_iff.mp hj).1
  omega
 |n+1,i,h=>by
  have hi:i<rows.length:=by omega
  have ih:=Ziw rows n (i+1) (by omega)
  have hp:rows[i]? =some rows[i]:=List.getElem?_eq_getElem hi
  rw[List.drop_eq_getElem_cons hi]
  unfold Zeu
  cases hs:Z7 i rows 0 rows[i]with
  |some k=>
   have el:lsAt rows (i+1)=lsAt rows i:=by
    show(match rows[i]? with|some r=>if Z7 i rows 0 r=none then Zj r::lsAt rows i else lsAt rows i|none=>lsAt rows i)=_
    rw[hp]
    dsimp only
    rw[hs,if_neg (by simp)]
   rw[el]at ih
   dsimp only
   refine⟨by rw[List.length_cons,ih.1],fun j r hj=>?_⟩
   cases j with
   |zero=>
    rw[Nat.add_zero]at hj⊢
    rw[hp]at hj
    cases hj
    rw[List.getElem?_cons_zero]
    unfold pt
    rw[show i+0=i from rfl,hs]
   |succ j=>
    rw[List.getElem?_cons_succ,ih.2 j r (by rw[show i+1+j=i+(j+1) by omega];exact hj),show i+1+j=i+(j+1) by omega]
  |none=>
   have el:lsAt rows (i+1)=Zj rows[i]::lsAt rows i:=by
    show(match rows[i]? with|some r=>if Z7 i rows 0 r=none then Zj r::lsAt rows i else lsAt rows i|none=>lsAt rows i)=_
    rw[hp]
    dsimp only
    rw[hs,if_pos rfl]
   rw[el]at ih
   dsimp only
   refine⟨by rw[List.length_cons,ih.1],fun j r hj=>?_⟩
   cases j with
   |zero=>
    rw[Nat.add_zero]at hj⊢
    rw[hp]at hj
    cases hj
    rw[List.getElem?_cons_zero]
    unfold pt
    rw[show i+0=i from rfl,hs]
   |succ j=>
    rw[List.getElem?_cons_succ,ih.2 j r (by rw[show i+1+j=i+(j+1) by omega];exact hj),show i+1+j=i+(j+1) by omega]
theorem Zj3(rows:List (List Str)):∀i,(lsAt rows i).length≤i
 |0=>Nat.le_refl _
 |i+1=>by
  have ih:=Zj3 rows i
  unfold lsAt
  split
  ·split
   ·rw[List.length_cons];omega
   ·omega
  ·omega
theorem Zev(rows:List (List Str))(x:Str)(i:Nat):∀d,(lsAt rows i).count x≤(lsAt rows (i+d)).count x
 |0=>Nat.le_refl _
 |d+1=>by
  refine Nat.le_trans (Zev rows x i d) ?_
  show _≤(lsAt rows (i+d+1)).count x
  conv=>rhs;unfold lsAt
  split
  ·split
   ·rw[List.count_cons];omega
   ·exact Nat.le_refl _
  ·exact Nat.le_refl _
theorem Zni{rows:List (List Str)}{i:Nat}{r:List Str}(hp:rows[i]? =some r)(hs:Z7 i rows 0 r=none):lsAt rows (i+1)=Zj r::lsAt rows i:=by
 show(match rows[i]? with|some r=>if Z7 i rows 0 r=none then Zj r::lsAt rows i else lsAt rows i|none=>lsAt rows i)=_
 rw[hp]
 dsimp only
 rw[hs,if_pos rfl]
theorem Zs9{rows:List (List Str)}{i:Nat}{r:List Str}{k:Nat}(hp:rows[i]? =some r)(hs:Z7 i rows 0 r=some k):lsAt rows (i+1)=lsAt rows i:=by
 show(match rows[i]? with|some r=>if Z7 i rows 0 r=none then Zj r::lsAt rows i else lsAt rows i|none=>lsAt rows i)=_
 rw[hp]
 dsimp only
 rw[hs,if_neg (by simp)]
theorem Zew(n:Nat):94∉(S (dig n)).cps.toList:=by
 rw[Zwm]
 exact fun h=>by have:=Zpk n 94 h;omega
structure Rows'(rows:List (List Str))(n:Nat):Prop where
 len:rows.length≤60
 n1:1≤n
 n6:n≤6
 all:∀r∈rows,r.length=n∧∀x∈r,Good x
theorem Znj{r:List Str}(h:r≠[]):Zj r∈r:=by
 rcases List.eq_nil_or_concat r with e|⟨q,x,e⟩
 ·exact absurd e h
 ·rw[List.concat_eq_append]at e
  subst e
  have:Zj (q++[x])=x:=by unfold Zj;simp
  rw[this];simp
theorem Zdm{rows:List (List Str)}{n i:Nat}{r:List Str}(R:Rows' rows n)(hp:rows[i]? =some r):
  (∃k t,Z7 i rows 0 r=some k∧r[k]? =some t∧pt rows i r=t∧Good t∧Txt.partition (pt rows i r) HAT=(t,Str.empty,Str.empty))∨
  (Z7 i rows 0 r=none∧pt rows i r=Zj r++HAT++S (dig ((lsAt rows i).count (Zj r)))∧Good (Zj r)∧Txt.partition (pt rows i r) HAT=(Zj r,HAT,S (dig ((lsAt rows i).count (Zj r))))):=by
 obtain⟨h1,h2⟩:=R.all r (List.mem_of_getElem? hp)
 have hn:=R.n1
 cases hs:Z7 i rows 0 r with
 |some k=>
  obtain⟨_,⟨t,ht,_⟩,_⟩:=Zac hs
  rw[Nat.sub_zero]at ht
  have hg:=h2 t (List.mem_of_getElem? ht)
  have e:pt rows i r=t:=by unfold pt;rw[hs];dsimp only;rw[List.getD_eq_getElem?_getD,ht];rfl
  exact .inl ⟨k,t,rfl,ht,e,hg,by rw[e];exact Zpc Zj2 t hg.1⟩
 |none=>
  have hne:r≠[]:=fun z=>by rw[z]at h1;simp at h1;omega
  have hg:=h2 _ (Znj hne)
  have e:pt rows i r=Zj r++HAT++S (dig ((lsAt rows i).count (Zj r))):=by unfold pt;rw[hs]
  exact .inr ⟨rfl,e,hg,by rw[e];exact Zpd Zj2 _ _ hg.1 (Zew _)⟩
end My
namespace My
open DL PySem
theorem Zta(a b c d:Str):eqM 48 (.tup [.str a,.str b]) (.tup [.str c,.str d])=some (decide (a=c)&&decide (b=d)):=by
 by_cases h1:a=c<;> by_cases h2:b=d<;> simp[h1,h2]
noncomputable abbrev Zi(rows:List (List Str)):List Str:=Zeu rows 0 rows []
theorem Zc7{rows:List (List Str)}{i:Nat}{r:List Str}(hp:rows[i]? =some r):(Zi rows)[i]? =some (pt rows i r):=by
 have:=(Ziw rows rows.length 0 (by omega)).2 i r (by rw[Nat.zero_add];exact hp)
 rw[List.drop_zero,Nat.zero_add]at this
 exact this
theorem Za4(rows:List (List Str)):(Zi rows).length=rows.length:=by
 have:=(Ziw rows rows.length 0 (by omega)).1
 rw[List.drop_zero]at this
 exact this
theorem Zql{rows:List (List Str)}{n i:Nat}{r:List Str}(R:Rows' rows n)(hp:rows[i]? =some r):(pt rows i r).length≤3000000:=by
 have hl:=R.len
 have hi:=(List.getElem?_eq_some_iff.mp hp).1
 rcases Zdm R hp with⟨k,t,hs,ht,e1,hg,p1⟩|⟨hs,e1,hg,p1⟩
 ·rw[e1];have:=hg.2;omega
 ·rw[e1,Zcr,Zcr,Zpe (dig _)]
  have c1:HAT.length=1:=by decide+kernel
  have c2:(lsAt rows i).count (Zj r)≤100:=by
   have h1:=List.count_le_length (a:=Zj r) (l:=lsAt rows i)
   have h2:=Zj3 rows i
   omega
  have c3:=Zna 50 ((lsAt rows i).count (Zj r)) (Nat.lt_of_le_of_lt c2 (by decide))
  have:=hg.2
  omega
end My
namespace My
open DL PySem
noncomputable def ins(R:List (List Str))(p:Nat)(r:List Str):List (List Str):=R.take p++[r]++R.drop p
noncomputable def jj(p i:Nat):Nat:=if i<p then i else i+1
theorem Zex(R:List (List Str)){p:Nat}(r:List Str)(hp:p≤R.length):(ins R p r).length=R.length+1:=by
 unfold ins;simp;omega
theorem Zqm{R:List (List Str)}{p:Nat}(r:List Str)(hp:p≤R.length){m:Nat}(h:m<p):(ins R p r)[m]? =R[m]?:=by
 unfold ins
 rw[List.append_assoc,List.getElem?_append_left (by simp;omega),List.getElem?_take_of_lt h]
theorem Zqn{R:List (List Str)}{p:Nat}(r:List Str)(hp:p≤R.length):(ins R p r)[p]? =some r:=by
 unfold ins
 rw[List.append_assoc,List.getElem?_append_right (by rw[List.length_take];omega),List.length_take,show p- min p R.length=0 by omega]
 rfl
theorem Zqo{R:List (List Str)}{p:Nat}(r:List Str)(hp:p≤R.length){m:Nat}(h:p≤m):(ins R p r)[m+1]? =R[m]?:=by
 unfold ins
 rw[List.append_assoc,List.getElem?_append_right (by simp;omega),List.length_take,show m+1- min p R.length=(m- p)+1 by omega]
 show(R.drop p)[m- p]? =_
 rw[List.getElem?_drop,show p+(m- p)=m by omega]
theorem Zfn{R:List (List Str)}{p:Nat}(r:List Str)(hp:p≤R.length)(i:Nat):(ins R p r)[jj p i]? =R[i]?:=by
 unfold jj
 by_cases h:i<p
 ·rw[if_pos h,Zqm r hp h]
 ·rw[if_neg h,Zqo r hp (by omega)]
theorem Zzx(p i:Nat):p≠jj p i:=by unfold jj;split<;> omega
theorem Zww{p i k:Nat}(h:k≠i):jj p k≠jj p i:=by unfold jj;split<;> split<;> omega
theorem Zzy(p i:Nat):jj p i+1≤jj p (i+1):=by unfold jj;split<;> split<;> omega
theorem Zb9{R:List (List Str)}{p:Nat}{r:List Str}(hp:p≤R.length)(i:Nat)(t:Str):
  Zaq (jj p i) t 0 (ins R p r)=none↔Zaq i t 0 R=none∧t∉r:=by
 rw[Zbu,Zbu]
 constructor
 ·intro h
  refine⟨fun k q hk hne=>h (jj p k) q (by rw[Zfn r hp];exact hk) ?_,h p r (Zqn r hp) ?_⟩
  ·rw[Nat.zero_add]at hne⊢;exact Zww hne
  ·rw[Nat.zero_add];exact Zzx p i
 ·rintro⟨h1,h2⟩ m q hm hne
  rw[Nat.zero_add]at hne
  rcases Nat.lt_trichotomy m p with h|h|h
  ·rw[Zqm r hp h]at hm
   refine h1 m q hm fun e=>hne ?_
   unfold jj
   rw[Nat.zero_add]at e
   rw[if_pos (by omega)];exact e
  ·subst h
   rw[Zqn r hp]at hm
   cases hm
   exact h2
  ·obtain⟨k,rfl⟩:∃k,m=k+1:=⟨m- 1,by omega⟩
   rw[Zqo r hp (by omega)]at hm
   refine h1 k q hm fun e=>hne ?_
   unfold jj
   rw[Nat.zero_add]at e
   rw[if_neg (by omega)];omega
variable{R:List (List Str)}{p:Nat}{r:List Str}
theorem Zbv(hp:p≤R.length){i:Nat}{q:List Str}(h:Z7 i R 0 q=none):Z7 (jj p i) (ins R p r) 0 q=none:=by
 cases hs:Z7 (jj p i) (ins R p r) 0 q with
 |none=>rfl
 |some k=>
  obtain⟨_,⟨t,ht,hr⟩,_⟩:=Zac hs
  exact absurd ((Zb9 hp i t).mp hr).1 (Zdl h t (List.mem_of_getElem? ht))
theorem Znk(hp:p≤R.length){i k:Nat}{q:List Str}{t:Str}(h:Z7 i R 0 q=some k)(ht:q[k]? =some t)(hn:t∉r):Z7 (jj p i) (ins R p r) 0 q=some k:=by
 obtain⟨_,⟨u,hu,hu0⟩,hlow⟩:=Zac h
 rw[Nat.sub_zero]at hu hlow
 rw[ht]at hu
 cases hu
 have hr':Zaq (jj p i) t 0 (ins R p r)=none:=(Zb9 hp i t).mpr ⟨hu0,hn⟩
 cases hs:Z7 (jj p i) (ins R p r) 0 q with
 |none=>exact absurd hr' (Zdl hs t (List.mem_of_getElem? ht))
 |some k'=>
  obtain⟨_,⟨u,hu,hu1⟩,hlow'⟩:=Zac hs
  rw[Nat.sub_zero]at hu hlow'
  congr 1
  rcases Nat.lt_trichotomy k' k with h1|h1|h1
  ·exact absurd ((Zb9 hp i u).mp hu1).1 (hlow k' u h1 hu)
  ·exact h1
  ·exact absurd hr' (hlow' k t h1 ht)
theorem Znl(hp:p≤R.length){i k:Nat}{q:List Str}{t:Str}(hs:Z7 (jj p i) (ins R p r) 0 q=some k)(ht:q[k]? =some t):t∉r:=by
 obtain⟨_,⟨u,hu,hu1⟩,_⟩:=Zac hs
 rw[Nat.sub_zero]at hu
 rw[ht]at hu
 cases hu
 exact((Zb9 hp i t).mp hu1).2
theorem Znm(hp:p≤R.length)(x:Str):∀i,i≤R.length→(lsAt R i).count x≤(lsAt (ins R p r) (jj p i)).count x
 |0,_=>Nat.zero_le _
 |i+1,h=>by
  have ih:=Znm hp x i (by omega)
  have hi:R[i]? =some R[i]:=List.getElem?_eq_getElem (by omega)
  have hj:(ins R p r)[jj p i]? =some R[i]:=by rw[Zfn r hp];exact hi
  have up:=Zev (ins R p r) x (jj p i+1) (jj p (i+1)- (jj p i+1))
  rw[show jj p i+1+(jj p (i+1)- (jj p i+1))=jj p (i+1) by have:=Zzy p i;omega]at up
  refine Nat.le_trans ?_ up
  cases hs:Z7 i R 0 R[i]with
  |none=>
   rw[Zni hi hs,Zni hj (Zbv hp hs),List.count_cons,List.count_cons]
   omega
  |some k=>
   rw[Zs9 hi hs]
   refine Nat.le_trans ih ?_
   exact Zev (ins R p r) x (jj p i) 1
end My
namespace My
open DL PySem
theorem Zqp{t:Str}(h:Zb8 t):Builtin.Str.occurrences t HAT 0 t.length 1=[]:=by
 have h1:=Zd1 Zj2 [t] (fun q hq=>by rw[List.mem_singleton.mp hq];exact h) 1
 rw[show Str.join HAT [t]=t from rfl]at h1
 rw[h1];rfl
theorem Znn{p q:Str}(hp:Zb8 p)(hq:94∉q.cps.toList):Builtin.Str.occurrences (p++HAT++q) HAT 0 (p++HAT++q).length 1=[p.length]:=by
 have h1:=Zd1 Zj2 [p,q] (fun z hz=>by
  rcases List.mem_cons.mp hz with e|e
  ·rw[e];exact hp
  ·rw[List.mem_singleton.mp e];exact hq) 1
 rw[show Str.join HAT [p,q]=p++HAT++q from rfl]at h1
 rw[h1]
 show[0+p.cps.toList.length]=[p.length]
 rw[Za1,Nat.zero_add]
structure Put(R:List (List Str))(p:Nat)(r:List Str)(n:Nat):Prop where
 rows:Rows' R n
 len:R.length≤50
 hp:p≤R.length
 row:r.length=n∧∀x∈r,Good x
variable{R:List (List Str)}{p n:Nat}{r:List Str}
theorem Put.new(P:Put R p r n):Rows' (ins R p r) n:=⟨by rw[Zex R r P.hp];have:=P.len;omega,P.rows.n1,P.rows.n6,fun q hq=>by
 unfold ins at hq
 rcases List.mem_append.mp hq with hq|hq
 ·rcases List.mem_append.mp hq with hq|hq
  ·exact P.rows.all q (List.mem_of_mem_take hq)
  ·rw[List.mem_singleton.mp hq];exact P.row
 ·exact P.rows.all q (List.mem_of_mem_drop hq)⟩
theorem Zj4(P:Put R p r n){i:Nat}{q:List Str}(hi:R[i]? =some q):
  (∃k t,Z7 i R 0 q=some k∧pt R i q=t∧Good t∧Txt.partition t HAT=(t,Str.empty,Str.empty)∧((t∉r∧pt (ins R p r) (jj p i) q=t)∨(t∈r∧pt (ins R p r) (jj p i) q≠t)))∨
  (Z7 i R 0 q=none∧pt R i q=Zj q++HAT++S (dig ((lsAt R i).count (Zj q)))∧Good (Zj q)∧Txt.partition (pt R i q) HAT=(Zj q,HAT,S (dig ((lsAt R i).count (Zj q))))∧(pt (ins R p r) (jj p i) q=pt R i q↔¬(lsAt R i).count (Zj q)<(lsAt (ins R p r) (jj p i)).count (Zj q))):=by
 have hj:(ins R p r)[jj p i]? =some q:=by rw[Zfn r P.hp];exact hi
 rcases Zdm P.rows hi with⟨k,t,hs,ht,e1,hg,p1⟩|⟨hs,e1,hg,p1⟩
 ·refine .inl ⟨k,t,hs,e1,hg,by rw[←e1];rw[p1,e1],?_⟩
  by_cases hm:t∈r
  ·refine .inr ⟨hm,fun e=>?_⟩
   rcases Zdm P.new hj with⟨k',t',hs',ht',e1',hg',p1'⟩|⟨hs',e1',hg',p1'⟩
   ·rw[e1']at e
    subst e
    exact Znl P.hp hs' ht' hm
   ·rw[e]at p1'
    rw[e1,p1']at p1
    exact absurd (congrArg (fun x=>x.2.1) p1) (by show¬HAT=Str.empty;decide+kernel)
  ·refine .inl ⟨hm,?_⟩
   have:=Znk P.hp hs ht hm
   unfold pt
   rw[this]
   dsimp only
   rw[List.getD_eq_getElem?_getD,ht];rfl
 ·refine .inr ⟨hs,e1,hg,p1,?_⟩
  have hs':Z7 (jj p i) (ins R p r) 0 q=none:=Zbv P.hp hs
  have e2:pt (ins R p r) (jj p i) q=Zj q++HAT++S (dig ((lsAt (ins R p r) (jj p i)).count (Zj q))):=by unfold pt;rw[hs']
  have hil:=(List.getElem?_eq_some_iff.mp hi).1
  have hc:=Znm (r:=r) P.hp (Zj q) i (by omega)
  constructor
  ·intro e
   rcases Zdm P.new hj with⟨k',t',hs'',_⟩|⟨_,_,_,p2⟩
   ·rw[hs']at hs'';cases hs''
   ·rw[e,p1]at p2
    have:=Zs1 (Zzv (congrArg (fun x=>x.2.2) p2))
    omega
  ·intro h
   rw[e1,e2]
   congr 3
   omega
theorem Zfo:∀(rs zs:List (List Str)),zs.length+rs.length≤1000→
  Zde [.own,.acc] 1 (Zg 0) Zg0 Gen.Zdj (rs.map rowD) [none,some (.ol (zs.map rowD))]=some [none,some (.ol ((zs++rs).map rowD))]
 | [],zs,_=>by simp
 |r::rs,zs,h=>by
  rw[List.length_cons]at h
  have z:zs.length<PySem.sizeLine:=Zbe (by omega)
  have ih:=Zfo rs (zs++[r]) (by rw[List.length_append,List.length_singleton];omega)
  rw[List.map_cons]
  simp[Gen.Zdj,z]at ih⊢
  exact ih
theorem Zfe(P:Put R p r n):Gen.Zbc [Zap R,rowD r,.int (p:Int)]=some (.ol ((ins R p r).map rowD)):=by
 have c:=Zfo R [] (by have:=P.len;simp;omega)
 simp only[List.map_nil,List.nil_append]at c
 have hp:=P.hp
 have hl:=P.len
 have c1:cutD (R.map rowD) none (some (p:Int))=(R.take p).map rowD:=by rw[Zqj _ _ (by rw[List.length_map];exact hp),List.map_take]
 have c2:cutD (R.map rowD) (some (p:Int)) none=(R.drop p).map rowD:=by rw[Zj0 _ _ (by rw[List.length_map];exact hp),List.map_drop]
 have z1:min p R.length+1≤PySem.sizeLine:=Zae (by omega)
 have z2:min p R.length+1+(R.length- p)≤PySem.sizeLine:=Zae (by omega)
 unfold Gen.Zbc Gen.Zf8
 have z0:1≤PySem.sizeLine:=Zae (by decide)
 simp[-Zde,-List.map_take,-List.map_drop,c,c1,c2,z0,z1,z2,ins]
noncomputable def whyD(R:List (List Str))(r:List Str)(i:Nat)(q:List Str):D:=match Z7 i R 0 q with
 |some _=>.tup [.str "fits",.int ((r.findIdx fun x=>decide (x=pt R i q):Nat):Int)]
 |none=>.tup [.str "letter"]
theorem hat0:¬HAT.length=0:=by decide+kernel
theorem Zno(P:Put R p r n){i:Nat}{q:List Str}(hi:R[i]? =some q):(pt R i q).length≤PySem.sizeLine:=Zae (by have:=Zql P.rows hi;omega)
theorem Zhw(P:Put R p r n){i:Nat}{q:List Str}(hi:R[i]? =some q)(hne:pt (ins R p r) (jj p i) q≠pt R i q):Gen.Zau [.str (pt R i q),rowD r]=some (.fz (whyD R r i q)):=by
 have hh:Str.ofString "^"=HAT:=rfl
 have he:Str.ofString ""=Str.empty:=rfl
 have z:=Zno P hi
 have z1:1≤PySem.sizeLine:=Zae (by decide)
 have z2:2≤PySem.sizeLine:=Zae (by decide)
 rcases Zj4 P hi with⟨k,t,hs,e1,hg,p1,c⟩|⟨hs,e1,hg,p1,c⟩
 ·rcases c with⟨hm,c⟩|⟨hm,c⟩
  ·rw[c,e1]at hne;exact absurd rfl hne
  ·have fl:=Zc1 r
   have fi:=Zc2 t r hm
   have le:Gen.Zai [.str t]=some (.fz (.str Str.empty)):=by
    rw[e1]at z
    unfold Gen.Zai Gen.Zbr
    simp[hh,p1,z,hat0,L2.atI,L2.ixN]
   unfold whyD
   rw[hs,e1]
   unfold Gen.Zau Gen.Zbs
   simp[-List.all_map,-List.findIdx?_map,le,he,fl,fi,z2]
 ·have le:Gen.Zai [.str (pt R i q)]=some (.fz (.str (S (dig ((lsAt R i).count (Zj q)))))):=by
   unfold Gen.Zai Gen.Zbr
   simp[hh,p1,z,hat0,L2.atI,L2.ixN]
  have hx:¬S (dig ((lsAt R i).count (Zj q)))=Str.empty:=fun e=>by
   obtain⟨l,hl⟩:=Zpj ((lsAt R i).count (Zj q))
   rw[hl]at e
   have:=congrArg Str.length e
   rw[Zpe (l++_)]at this
   have h0:Str.empty.length=0:=by decide+kernel
   rw[h0,List.length_append,List.length_singleton]at this
   omega
  unfold whyD
  rw[hs]
  unfold Gen.Zau Gen.Zbs
  simp[le,he,hx,z1]
end My
namespace My
open DL PySem
noncomputable def chg(R:List (List Str))(p:Nat)(r:List Str)(i:Nat)(q:List Str):List D:=if pt (ins R p r) (jj p i) q=pt R i q then[]else[.tup [.int (i:Int),.str (pt R i q),.str (pt (ins R p r) (jj p i) q),whyD R r i q]]
noncomputable def dueL(R:List (List Str))(p:Nat)(r:List Str):List (List Str)→Nat→List D
 | [],_=>[]
 |q::qs,i=>chg R p r i q++dueL R p r qs (i+1)
variable{R:List (List Str)}{p n:Nat}{r:List Str}
theorem Zwx(P:Put R p r n){i:Nat}{q:List Str}(hi:R[i]? =some q):L2.atI ((Zi (ins R p r)).map D.str) ((jj p i:Nat):Int)=some (.str (pt (ins R p r) (jj p i) q)):=
 Zbw _ _ _ (by rw[List.getElem?_map,Zc7 (by rw[Zfn r P.hp];exact hi)];rfl)
theorem Ztb(R:List (List Str))(p:Nat)(r:List Str)(i:Nat)(q:List Str):(chg R p r i q).length≤1:=by unfold chg;split<;> simp
theorem Zdt(P:Put R p r n):∀(qs:List (List Str)) (i:Nat) (zs:List D) (x5 x6 x7:Option SV),R.drop i=qs→zs.length≤i→
  ∃δ,forD (Zcw 2 (Z3 (Zg 5) (Z3 (Zg 6) (Zdc)))) Gen.Zbt (Zhm i (((Zi R).drop i).map D.str)) [some (.fz (Zap R)),some (.fz (rowD r)),some (.fz (.int (p:Int))),some (.ol ((Zi (ins R p r)).map D.str)),some (.ol zs),x5,x6,x7]=some (.nx δ)∧δ[4]? =some (some (.ol (zs++dueL R p r qs i)))
 | [],i,zs,x5,x6,x7,hd,hz=>by
  have:R.length≤i:=by
   have:=congrArg List.length hd
   rw[List.length_drop]at this;simp at this;omega
  rw[List.drop_of_length_le (by rw[Za4];exact this)]
  exact⟨_,rfl,by simp[dueL]⟩
 |q::qs,i,zs,x5,x6,x7,hd,hz=>by
  have hil:i<R.length:=by
   have:=congrArg List.length hd
   rw[List.length_drop,List.length_cons]at this;omega
  rw[List.drop_eq_getElem_cons hil]at hd
  have hq:R[i]=q:=(List.cons.inj hd).1
  have hds:=(List.cons.inj hd).2
  have hi:R[i]? =some q:=by rw[List.getElem?_eq_getElem hil,hq]
  have htl:i<(Zi R).length:=by rw[Za4];exact hil
  have e0:(Zi R).drop i=pt R i q::(Zi R).drop (i+1):=by
   rw[List.drop_eq_getElem_cons htl]
   congr 1
   have:=Zc7 hi
   rw[List.getElem?_eq_getElem htl]at this
   exact Option.some.inj this
  rw[e0,List.map_cons]
  have z:zs.length<PySem.sizeLine:=Zbe (by have:=P.len;omega)
  have z4:4≤PySem.sizeLine:=Zae (by decide)
  have an:=Zwx P hi
  have hlt:Gen.Zbt [some (.fz (Zap R)),some (.fz (rowD r)),some (.fz (.int (p:Int))),some (.ol ((Zi (ins R p r)).map D.str)),some (.ol zs),some (.fz (.int (i:Int))),some (.fz (.str (pt R i q))),x7]=some (.nx [some (.fz (Zap R)),some (.fz (rowD r)),some (.fz (.int (p:Int))),some (.ol ((Zi (ins R p r)).map D.str)),some (.ol (zs++chg R p r i q)),some (.fz (.int (i:Int))),some (.fz (.str (pt R i q))),some (.fz (.str (pt (ins R p r) (jj p i) q)))]):=by
   have ro:=Zhw P hi
   obtain⟨ts,hw⟩:∃ts,whyD R r i q= .tup ts:=by unfold whyD;split<;> exact⟨_,rfl⟩
   unfold chg
   rw[hw]at ro⊢
   generalize pt (ins R p r) (jj p i) q=nw at*
   generalize pt R i q=old at*
   generalize Zi (ins R p r)=tn at*
   unfold jj at an
   unfold Gen.Zbt
   by_cases hip:i<p
   ·rw[if_pos hip]at an
    by_cases hc:nw=old
    ·simp[hip,an,hc]
    ·simp[hip,an,hc,ro hc,z,z4]
   ·rw[if_neg hip]at an
    have ei:((i+1:Nat):Int)=(i:Int)+1:=by omega
    rw[ei]at an
    by_cases hc:nw=old
    ·simp[hip,an,hc]
    ·simp[hip,an,hc,ro hc,z,z4]
  obtain⟨δ,e,hδ⟩:=Zdt P qs (i+1) (zs++chg R p r i q) (some (.fz (.int (i:Int)))) (some (.fz (.str (pt R i q)))) (some (.fz (.str (pt (ins R p r) (jj p i) q)))) hds (by have:=Ztb R p r i q;rw[List.length_append];omega)
  refine⟨δ,(Zas (by simp) hlt).trans e,?_⟩
  rw[hδ];simp[dueL]
theorem Zge{rows:List (List Str)}(R':Rows' rows n):Gen.Zv [Zap rows]=some (.ol ((Zi rows).map D.str)):=Zwu rows (by have:=R'.len;omega) (fun q h=>by
  obtain⟨h1,h2⟩:=R'.all q h
  have:=R'.n1
  have:=R'.n6
  refine⟨fun z=>by rw[z]at h1;simp at h1;omega,by omega,fun t ht=>?_⟩
  have:=(h2 t ht).2
  omega)
theorem Zk2(P:Put R p r n):Gen.Zbo [Zap R,rowD r,.int (p:Int)]=some (.ol (dueL R p r R 0)):=by
 have e1:=Zfe P
 have e2:=Zge P.rows
 have e3:Gen.Zv [.lst ((ins R p r).map rowD)]=_:=Zge P.new
 obtain⟨δ,e,hδ⟩:=Zdt P R 0 [] none none none (List.drop_zero ..) (Nat.le_refl _)
 rw[List.drop_zero,List.nil_append]at*
 generalize ins R p r=R' at*
 unfold Gen.Zbo Gen.Zet
 simp[-forD,e1,e2,e3,Zf5,e,hδ]
end My
namespace My
open DL PySem
variable{R:List (List Str)}{p n:Nat}{r:List Str}
theorem Ztc (P : Put R p r n) {i : Nat} {q : List Str} (hi : R[i]? = some q) (hne : pt (ins R p r) (jj p i) q ≠ pt R i q) : Gen.Z2 [rowD q, rowD r, .str (pt R i q), .str (pt (ins R p r) (jj p i) q)] = some (.fz (.bl true)) := by
  have hh : Str.ofString "^" = HAT := rfl
  have hj : (ins R p r)[jj p i]? = some q := by rw [Zfn r P.hp]; exact hi
  obtain ⟨h1, h2⟩ := P.rows.all q (List.mem_of_getElem? hi)
  have qne : q ≠ [] := fun z => by rw [z] at h1; have := P.rows.n1; simp at h1; omega
  have zo := Zno P hi
  have zn : (pt (ins R p r) (jj p i) q).length ≤ PySem.sizeLine := Zae (by have := Zql P.new hj; omega)
  have cu : ∀ a b c : D, cutD [a, b, c] none (some 2) = [a, b] := fun a b c => rfl
  have s1 : HT.sIx 3 3 (some 2) = 2 := by decide
  have s0 : HT.sIx 3 0 none = 0 := rfl
  have z2 : 2 ≤ PySem.sizeLine := Zae (by decide)
  have at0 : ∀ a b c : D, L2.atI [a, b, c] 0 = some a := fun _ _ _ => rfl
  rcases Zj4 P hi with ⟨k, t, hs, e1, hg, p1, c⟩ | ⟨hs, e1, hg, p1, c⟩
  · rcases c with ⟨hm, c⟩ | ⟨hm, c⟩
    · rw [c, e1] at hne; exact absurd rfl hne
    · have oc := Zqp hg.1
      have mem := Zis t r
      have fl := Zc1 r
      have flq := Zc1 q
      rw [e1] at zo ⊢
      rcases Zdm P.new hj with ⟨k', t', hs', ht', e1', hg', p1'⟩ | ⟨hs', e1', hg', p1'⟩
      · -- another step
        have oc' := Zqp hg'.1
        have mq : t' ∈ q := List.mem_of_getElem? ht'
        have mem' := Zis t' q
        obtain ⟨_, ⟨u, hu, hu0⟩, _⟩ := Zac hs'
        rw [Nat.sub_zero, ht'] at hu
        cases hu
        obtain ⟨_, ⟨u, hu, _⟩, below⟩ := Zac hs
        rw [Nat.sub_zero] at hu below
        have et : u = t := by
          have : pt R i q = u := by unfold pt; rw [hs]; dsimp only; rw [List.getD_eq_getElem?_getD, hu]; rfl
          rw [← this, e1]
        subst et
        have tq : u ∈ q := List.mem_of_getElem? hu
        have f1 := Zc2 t' q mq
        have f2 := Zc2 u q tq
        -- where they stand
        have far : ∀ j, j ≤ k → q[j]? ≠ some t' := fun j hjk e => by
          have r0 := (Zb9 (r := r) P.hp i t').mp hu0
          rcases Nat.lt_or_eq_of_le hjk with z | z
          · exact below j t' z e r0.1
          · subst z; rw [hu] at e; cases e; exact r0.2 hm
        have i1 : k < q.findIdx fun x => decide (x = t') := by
          rcases Nat.lt_or_ge k (q.findIdx fun x => decide (x = t')) with z | z
          · exact z
          · have lt : (q.findIdx fun x => decide (x = t')) < q.length := List.findIdx_lt_length_of_exists ⟨t', mq, by simp⟩
            have g := List.findIdx_getElem (w := lt)
            exact absurd (by rw [List.getElem?_eq_getElem lt]; simpa using g) (far _ z)
        have i2 : (q.findIdx fun x => decide (x = u)) ≤ k := by
          rcases Nat.lt_or_ge k (q.findIdx fun x => decide (x = u)) with z | z
          · have := List.not_of_lt_findIdx z
            rw [List.getElem?_eq_some_iff] at hu
            obtain ⟨hk, ek⟩ := hu
            simp [ek] at this
          · exact z
        have i3 : ((q.findIdx fun x => decide (x = u) : Nat) : Int) < ((q.findIdx fun x => decide (x = t') : Nat) : Int) := by omega
        rw [e1'] at zn ⊢
        unfold Gen.Z2 Gen.Zan
        simp [-List.all_map, -List.findIdx?_map, hh, oc, oc', fl, flq, mem, mem', hm, mq, f1, f2, i3]
      · -- a letter
        have oc' := Znn hg'.1 (Zew ((lsAt (ins R p r) (jj p i)).count (Zj q)))
        rw [← e1'] at oc'
        have la := Zj1 qne
        generalize pt (ins R p r) (jj p i) q = NW at *
        unfold Gen.Z2 Gen.Zan
        simp [-List.all_map, hh, oc, oc', fl, mem, hm, p1', zn, hat0, at0, la]
  · have oc := Znn hg.1 (Zew ((lsAt R i).count (Zj q)))
    rw [← e1] at oc
    have hs' : Z7 (jj p i) (ins R p r) 0 q = none := Zbv P.hp hs
    rcases Zdm P.new hj with ⟨k', t', hs'', _⟩ | ⟨_, e1', hg', p1'⟩
    · rw [hs'] at hs''; cases hs''
    · have e2 := Zta (Zj q) HAT (Zj q) HAT
      simp only [decide_true, Bool.and_self] at e2
      generalize pt (ins R p r) (jj p i) q = NW at *
      generalize pt R i q = OD at *
      unfold Gen.Z2 Gen.Zan
      simp [-eqM, hh, oc, p1, p1', zo, zn, hat0, cu, s0, s1, z2, e2]
end My
namespace My
open DL PySem
variable{R:List (List Str)}{p n:Nat}{r:List Str}
noncomputable def newL(R:List (List Str))(p:Nat)(r:List Str):List Str:=(Zi (ins R p r)).take p++(Zi (ins R p r)).drop (p+1)
theorem Zc8(P:Put R p r n):(newL R p r).length=R.length:=by
 have h1:=Za4 (ins R p r)
 rw[Zex R r P.hp]at h1
 have:=P.hp
 unfold newL
 rw[List.length_append,List.length_take,List.length_drop,h1]
 omega
theorem Zj5(P:Put R p r n){i:Nat}{q:List Str}(hi:R[i]? =some q):(newL R p r)[i]? =some (pt (ins R p r) (jj p i) q):=by
 have hj:(ins R p r)[jj p i]? =some q:=by rw[Zfn r P.hp];exact hi
 have h1:=Za4 (ins R p r)
 rw[Zex R r P.hp]at h1
 have hp:=P.hp
 rw[←Zc7 hj]
 unfold newL jj
 split
 ·rw[List.getElem?_append_left (by rw[List.length_take];omega),List.getElem?_take_of_lt (by assumption)]
 ·rw[List.getElem?_append_right (by rw[List.length_take];omega),List.length_take,List.getElem?_drop]
  congr 1
  omega
noncomputable def bef(R:List (List Str))(p:Nat)(r:List Str)(i:Nat):List Str:=(newL R p r).take i++(Zi R).drop i
theorem Ztd(P:Put R p r n){i:Nat}(hi:i≤R.length):(bef R p r i).length=R.length:=by
 unfold bef
 rw[List.length_append,List.length_take,List.length_drop,Zc8 P,Za4]
 omega
theorem Zqq(P:Put R p r n){i:Nat}{q:List Str}(hi:R[i]? =some q):(bef R p r i)[i]? =some (pt R i q):=by
 have hil:=(List.getElem?_eq_some_iff.mp hi).1
 unfold bef
 rw[List.getElem?_append_right (by rw[List.length_take,Zc8 P];omega),List.length_take,Zc8 P,List.getElem?_drop]
 rw[show i+(i- min i R.length)=i by omega]
 exact Zc7 hi
theorem Znp(P:Put R p r n){i:Nat}{q:List Str}(hi:R[i]? =some q):(bef R p r i).set i (pt (ins R p r) (jj p i) q)=bef R p r (i+1):=by
 have hil:=(List.getElem?_eq_some_iff.mp hi).1
 have e1:=Zj5 P hi
 have nl:=Zc8 P
 have tl:=Za4 R
 unfold bef
 rw[List.set_append_right _ _ (by rw[List.length_take,nl];omega),List.length_take,nl,show i- min i R.length=0 by omega]
 have ht:i<(Zi R).length:=by omega
 rw[List.drop_eq_getElem_cons ht,List.set_cons_zero,List.take_add_one,e1]
 simp
theorem Zpl(P:Put R p r n){i:Nat}{q:List Str}(hi:R[i]? =some q)(he:pt (ins R p r) (jj p i) q=pt R i q):bef R p r i=bef R p r (i+1):=by
 rw[←Znp P hi,he]
 have:=Zqq P hi
 apply List.ext_getElem?
 intro j
 by_cases hj:i=j
 ·subst hj
  rw[List.getElem?_set_self ((List.getElem?_eq_some_iff.mp this).1),this]
 ·rw[List.getElem?_set_ne hj]
theorem Zpm(R:List (List Str))(p:Nat)(r:List Str):bef R p r 0=Zi R:=by unfold bef;simp
theorem Zte(P:Put R p r n):bef R p r R.length=newL R p r:=by
 unfold bef
 rw[List.take_of_length_le (Nat.le_of_eq (Zc8 P)),List.drop_of_length_le (Nat.le_of_eq (Za4 R)),List.append_nil]
theorem Zhx{i:Nat}{q:List Str}{qs:List (List Str)}(h:R.drop i=q::qs):R[i]? =some q∧R.drop (i+1)=qs:=by
 have hil:i<R.length:=by
  have:=congrArg List.length h
  rw[List.length_drop,List.length_cons]at this;omega
 rw[List.drop_eq_getElem_cons hil]at h
 exact⟨by rw[List.getElem?_eq_getElem hil,(List.cons.inj h).1],(List.cons.inj h).2⟩
theorem Zpn{i:Nat}(h:R.drop i=[])(hi:i≤R.length):i=R.length:=by
 have:=congrArg List.length h
 rw[List.length_drop]at this;simp at this;omega
section
variable(a0 a1 a2 a4 a5 a7 a8 a9 a10:Option SV)
theorem Ztf(P:Put R p r n):∀(qs:List (List Str)) (i:Nat) (x12 x13 x14 x15 x16:Option SV),R.drop i=qs→i≤R.length→
  ∃y12 y13 y14 y15 y16,forD (Zg 12) Gen.Zdk (dueL R p r qs i) [a0,a1,a2,some (.fz (Zap R)),a4,a5,some (.fz (rowD r)),a7,a8,a9,a10,some (.ol ((bef R p r i).map D.str)),x12,x13,x14,x15,x16]=some (.nx [a0,a1,a2,some (.fz (Zap R)),a4,a5,some (.fz (rowD r)),a7,a8,a9,a10,some (.ol ((bef R p r R.length).map D.str)),y12,y13,y14,y15,y16])
 | [],i,x12,x13,x14,x15,x16,hd,hi=>by
  rw[Zpn hd hi]
  exact⟨x12,x13,x14,x15,x16,rfl⟩
 |q::qs,i,x12,x13,x14,x15,x16,hd,hi=>by
  obtain⟨hq,hds⟩:=Zhx hd
  have hil:=(List.getElem?_eq_some_iff.mp hq).1
  show∃y12 y13 y14 y15 y16,forD (Zg 12) Gen.Zdk (chg R p r i q++dueL R p r qs (i+1)) _=_
  unfold chg
  by_cases hc:pt (ins R p r) (jj p i) q=pt R i q
  ·rw[if_pos hc,List.nil_append,Zpl P hq hc]
   exact Ztf P qs (i+1) x12 x13 x14 x15 x16 hds (by omega)
  ·rw[if_neg hc]
   have go:=Ztc P hq hc
   have b1:L2.atI ((bef R p r i).map D.str) (i:Int)=some (.str (pt R i q)):=Zbw _ _ _ (by rw[List.getElem?_map,Zqq P hq];rfl)
   have b2:L2.atI (R.map rowD) (i:Int)=some (rowD q):=Zbw _ _ _ (by rw[List.getElem?_map,hq];rfl)
   have b3:((bef R p r i).map D.str).set i (.str (pt (ins R p r) (jj p i) q))=(bef R p r (i+1)).map D.str:=by rw[←Znp P hq,List.map_set]
   have bl:((bef R p r i).map D.str).length=R.length:=by rw[List.length_map,Ztd P hi]
   have ix:L2.ixN ((bef R p r i).map D.str).length (i:Int)=some i:=by
    rw[bl];unfold L2.ixN;rw[if_pos (by omega),if_pos (by omega)];simp
   obtain⟨y12,y13,y14,y15,y16,ih⟩:=Ztf P qs (i+1) (some (.fz (.tup [.int (i:Int),.str (pt R i q),.str (pt (ins R p r) (jj p i) q),whyD R r i q]))) (some (.fz (.int (i:Int)))) (some (.fz (.str (pt R i q)))) (some (.fz (.str (pt (ins R p r) (jj p i) q)))) (some (.fz (whyD R r i q))) hds (by omega)
   refine⟨y12,y13,y14,y15,y16,?_⟩
   rw[List.singleton_append]
   refine(Zas (δ1:=[a0,a1,a2,some (.fz (Zap R)),a4,a5,some (.fz (rowD r)),a7,a8,a9,a10,some (.ol ((bef R p r i).map D.str)),some (.fz (.tup [.int (i:Int),.str (pt R i q),.str (pt (ins R p r) (jj p i) q),whyD R r i q])),x13,x14,x15,x16]) (by simp) ?_).trans ih
   rw[←b3]
   generalize pt (ins R p r) (jj p i) q=NW at*
   generalize pt R i q=OD at*
   generalize whyD R r i q=WY at*
   generalize (bef R p r i).map D.str=BF at*
   generalize hR:R.map rowD=RD at*
   generalize rowD q=QD at*
   generalize rowD r=RW at*
   generalize hii:(i:Int)=ii at*
   unfold Gen.Zdk
   simp[hR,b1,b2,go,ix]
end
end My
namespace My
open DL PySem SX
variable{R:List (List Str)}{p n:Nat}{r:List Str}
noncomputable def dueI(R:List (List Str))(p:Nat)(r:List Str):List (List Str)→Nat→List Int
 | [],_=>[]
 |q::qs,i=>(if pt (ins R p r) (jj p i) q=pt R i q then[]else[(i:Int)])++dueI R p r qs (i+1)
theorem Znq(R:List (List Str))(p:Nat)(r:List Str):∀(qs:List (List Str)) (i:Nat),∀x∈dueI R p r qs i,(i:Int)≤x
 | [],_,_,h=>nomatch h
 |q::qs,i,x,h=>by
  rcases List.mem_append.mp h with z|z
  ·split at z
   ·cases z
   ·rw[List.mem_singleton.mp z];exact Int.le_refl _
  ·have:=Znq R p r qs (i+1) x z;omega
theorem Zj6(R:List (List Str))(p:Nat)(r:List Str):∀(qs:List (List Str)) (i:Nat),(dueI R p r qs i).Pairwise (· < ·)
 | [],_=>List.Pairwise.nil
 |q::qs,i=>by
  refine List.pairwise_append.mpr ⟨by split<;> simp,Zj6 R p r qs (i+1),fun a ha b hb=>?_⟩
  have:=Znq R p r qs (i+1) b hb
  split at ha
  ·cases ha
  ·rw[List.mem_singleton.mp ha];omega
theorem Zj7(R:List (List Str))(p:Nat)(r:List Str):∀(qs:List (List Str)) (i:Nat),(dueI R p r qs i).length=(dueL R p r qs i).length∧(dueL R p r qs i).length≤qs.length
 | [],_=>⟨rfl,Nat.le_refl _⟩
 |q::qs,i=>by
  obtain⟨a,b⟩:=Zj7 R p r qs (i+1)
  show(_++dueI R p r qs (i+1)).length=(chg R p r i q++dueL R p r qs (i+1)).length∧(chg R p r i q++dueL R p r qs (i+1)).length≤(q::qs).length
  unfold chg
  by_cases hc:pt (ins R p r) (jj p i) q=pt R i q
  ·rw[if_pos hc,if_pos hc]
   simp only[List.nil_append,List.length_cons]
   exact⟨a,by omega⟩
  ·rw[if_neg hc,if_neg hc]
   simp only[List.singleton_append,List.length_cons]
   exact⟨by omega,by omega⟩
theorem t4(a b c d:D):L2.atI [a,b,c,d] 0=some a:=rfl
theorem Zix(R:List (List Str))(p:Nat)(r:List Str):∀(qs:List (List Str)) (i:Nat) (zs:List D),zs.length+qs.length≤1000→Zde [.own,.acc] 1 (Zg 0) Zg0 Gen.Ziu (dueL R p r qs i) [none,some (.ol zs)]=some [none,some (.ol (zs++(dueI R p r qs i).map D.int))]
 | [],i,zs,_=>by simp[dueL,dueI]
 |q::qs,i,zs,h=>by
  rw[List.length_cons]at h
  show Zde _ _ _ _ _ (chg R p r i q++dueL R p r qs (i+1)) _=some [none,some (.ol (zs++(_++dueI R p r qs (i+1)).map D.int))]
  unfold chg
  by_cases hc:pt (ins R p r) (jj p i) q=pt R i q
  ·rw[if_pos hc,if_pos hc,List.nil_append,List.nil_append]
   exact Zix R p r qs (i+1) zs (by omega)
  ·rw[if_neg hc,if_neg hc,List.singleton_append,List.singleton_append,List.map_cons]
   have ih:=Zix R p r qs (i+1) (zs++[.int (i:Int)]) (by rw[List.length_append,List.length_singleton];omega)
   have z:zs.length<PySem.sizeLine:=Zbe (by omega)
   rw[List.append_assoc,List.singleton_append]at ih
   generalize (dueI R p r qs (i+1)).map D.int=W at*
   generalize dueL R p r qs (i+1)=V at*
   generalize pt (ins R p r) (jj p i) q=NW at*
   generalize pt R i q=OD at*
   generalize whyD R r i q=WY at*
   generalize (i:Int)=ii at*
   simp[Gen.Ziu,z,t4]at ih⊢
   exact ih
theorem Ziy(R:List (List Str))(p:Nat)(r:List Str):∀(qs:List (List Str)) (i:Nat) (zs:List D),zs.length+qs.length≤1000→Zde [.own,.acc] 1 (Zg 0) Zg0 Gen.Ziv (dueL R p r qs i) [none,some (.ol zs)]=some [none,some (.ol (zs++(dueI R p r qs i).map D.int))]
 | [],i,zs,_=>by simp[dueL,dueI]
 |q::qs,i,zs,h=>by
  rw[List.length_cons]at h
  show Zde _ _ _ _ _ (chg R p r i q++dueL R p r qs (i+1)) _=some [none,some (.ol (zs++(_++dueI R p r qs (i+1)).map D.int))]
  unfold chg
  by_cases hc:pt (ins R p r) (jj p i) q=pt R i q
  ·rw[if_pos hc,if_pos hc,List.nil_append,List.nil_append]
   exact Ziy R p r qs (i+1) zs (by omega)
  ·rw[if_neg hc,if_neg hc,List.singleton_append,List.singleton_append,List.map_cons]
   have ih:=Ziy R p r qs (i+1) (zs++[.int (i:Int)]) (by rw[List.length_append,List.length_singleton];omega)
   have z:zs.length<PySem.sizeLine:=Zbe (by omega)
   rw[List.append_assoc,List.singleton_append]at ih
   generalize (dueI R p r qs (i+1)).map D.int=W at*
   generalize dueL R p r qs (i+1)=V at*
   generalize pt (ins R p r) (jj p i) q=NW at*
   generalize pt R i q=OD at*
   generalize whyD R r i q=WY at*
   generalize (i:Int)=ii at*
   simp[Gen.Ziv,z,t4]at ih⊢
   exact ih
theorem Ziz(P:Put R p r n):∀(qs:List (List Str)) (i:Nat) (zs:List D),R.drop i=qs→i≤R.length→zs.length+qs.length≤1000→
  ∃zs',zs'.length=zs.length+(dueL R p r qs i).length∧Zde [.own,.cap 4,.cap 11,.acc] 3 (Zg 0) Gen.Zf9 Gen.Zga (nats i qs.length) [none,some (.fz (.lst ((Zi R).map D.str))),some (.fz (.lst ((newL R p r).map D.str))),some (.ol zs)]=some [none,some (.fz (.lst ((Zi R).map D.str))),some (.fz (.lst ((newL R p r).map D.str))),some (.ol zs')]
 | [],i,zs,hd,hi,_=>⟨zs,rfl,by unfold nats;simp⟩
 |q::qs,i,zs,hd,hi,h=>by
  obtain⟨hq,hds⟩:=Zhx hd
  have hil:=(List.getElem?_eq_some_iff.mp hq).1
  rw[List.length_cons]at h
  have b1:L2.atI ((Zi R).map D.str) (i:Int)=some (.str (pt R i q)):=Zbw _ _ _ (by rw[List.getElem?_map,Zc7 hq];rfl)
  have b2:L2.atI ((newL R p r).map D.str) (i:Int)=some (.str (pt (ins R p r) (jj p i) q)):=Zbw _ _ _ (by rw[List.getElem?_map,Zj5 P hq];rfl)
  have en:nats i (q::qs).length=D.int (i:Int)::nats (i+1) qs.length:=by unfold nats;rw[List.length_cons,List.range'_succ,List.map_cons]
  have z:zs.length<PySem.sizeLine:=Zbe (by omega)
  have dl:(dueL R p r (q::qs) i).length=(chg R p r i q).length+(dueL R p r qs (i+1)).length:=by
   show(chg R p r i q++dueL R p r qs (i+1)).length=_
   rw[List.length_append]
  rw[en,dl]
  unfold chg
  by_cases hc:pt (ins R p r) (jj p i) q=pt R i q
  ·rw[if_pos hc]
   obtain⟨zs',l,e⟩:=Ziz P qs (i+1) zs hds (by omega) (by omega)
   refine⟨zs',by rw[l];simp,?_⟩
   rw[hc]at b2
   generalize (Zi R).map D.str=O at*
   generalize (newL R p r).map D.str=N at*
   generalize nats (i+1) qs.length=NN at*
   generalize pt R i q=OD at*
   generalize (i:Int)=ii at*
   simp[Gen.Zf9,Gen.Zga,b1,b2]at e⊢
   exact e
  ·rw[if_neg hc]
   obtain⟨zs',l,e⟩:=Ziz P qs (i+1) (zs++[.int (i:Int)]) hds (by omega) (by rw[List.length_append,List.length_singleton];omega)
   refine⟨zs',by rw[l,List.length_append];simp;omega,?_⟩
   have hc':¬pt R i q=pt (ins R p r) (jj p i) q:=fun z=>hc z.symm
   generalize (Zi R).map D.str=O at*
   generalize (newL R p r).map D.str=N at*
   generalize nats (i+1) qs.length=NN at*
   generalize pt (ins R p r) (jj p i) q=NW at*
   generalize pt R i q=OD at*
   generalize (i:Int)=ii at*
   simp[Gen.Zf9,Gen.Zga,b1,b2,hc',z]at e⊢
   exact e
end My
namespace My
open DL PySem SX
theorem Zpo(l:List Int):eqM 48 (.lst (l.map D.int)) (.lst (l.map D.int))=some true:=Zm4 47 _ fun x hx=>by
 obtain⟨i,_,rfl⟩:=List.mem_map.mp hx
 exact Zsx 46 i
noncomputable def Two(R:List (List Str))(s3 s4:Option SV):Prop:=(s3=some (.ol (R.map rowD))∧s4=some (.ol ((Zi R).map D.str)))∨(s3=some (.fz (Zap R))∧s4=some (.fz (.lst ((Zi R).map D.str))))
theorem turn{R:List (List Str)}{n:Nat}(hR:Rows' R n)(hl:R.length≤20)(so c:Int)(a0 s3 s4 x6 x7 x8 x9 x10 x11 x12 x13 x14 x15 x16:Option SV)(h34:Two R s3 s4):∃R' y3 y4 y6 y7 y8 y9 y10 y11 y12 y13 y14 y15 y16,Rows' R' n∧R'.length=R.length+1∧Two R' y3 y4∧
  Gen.Zct [a0,some (.fz (.int so)),some (.fz (.int (n:Int))),s3,s4,some (.fz (.int c)),x6,x7,x8,x9,x10,x11,x12,x13,x14,x15,x16]=some (.nx [a0,some (.fz (.int so)),some (.fz (.int (n:Int))),y3,y4,some (.fz (.int c)),y6,y7,y8,y9,y10,y11,y12,y13,y14,y15,y16]):=by
 obtain⟨r,er,rl,rg⟩:=Zwv so n hR.n6 hR.n1 c
 have d0:(0:Int)<(R.length:Int)+1:=by omega
 obtain⟨p,hp⟩:=Int.eq_ofNat_of_zero_le (Int.emod_nonneg (c / 5) (show(R.length:Int)+1≠0 by omega))
 have hp1:=Int.emod_lt_of_pos (c / 5) d0
 have hpR:p≤R.length:=by omega
 have P:Put R p r n:=⟨hR,by omega,hpR,rl,rg⟩
 have e1:=Zk2 P
 have e2:=Zfe P
 have e3:Gen.Zv [.lst ((ins R p r).map rowD)]=some (.ol ((Zi (ins R p r)).map D.str)):=Zge P.new
 have tl:=Za4 R
 have tl2:=Za4 (ins R p r)
 rw[Zex R r P.hp]at tl2
 obtain⟨dl1,dl2⟩:=Zj7 R p r R 0
 have srt1:=Zst (ns:=dueI R p r R 0) (by omega)
 rw[Zpa (Zj6 R p r R 0)]at srt1
 have c2:=Zix R p r R 0 [] (by simp;omega)
 have c3:=Ziy R p r R 0 [] (by simp;omega)
 obtain⟨zs,zl,c4⟩:=Ziz P R 0 [] (List.drop_zero ..) (Nat.zero_le _) (by simp;omega)
 rw[List.nil_append]at c2 c3
 have zl:zs.length=(dueL R p r R 0).length:=by rw[zl];simp
 have ei:=Zpo (dueI R p r R 0)
 have es:=Zpg 46 (newL R p r)
 have g1:rngP (R.length:Int):=Zfu (by omega)
 have et:((R.length:Int)).toNat=R.length:=by omega
 have cu1:cutD ((Zi (ins R p r)).map D.str) none (some (p:Int))=((Zi (ins R p r)).take p).map D.str:=by rw[Zqj _ _ (by rw[List.length_map,tl2];omega),List.map_take]
 have cu2:cutD ((Zi (ins R p r)).map D.str) (some ((p:Int)+1)) none=((Zi (ins R p r)).drop (p+1)).map D.str:=by
  rw[show(p:Int)+1=((p+1:Nat):Int) by omega,Zj0 _ _ (by rw[List.length_map,tl2];omega),List.map_drop]
 have ca:((Zi (ins R p r)).take p).map D.str++((Zi (ins R p r)).drop (p+1)).map D.str=(newL R p r).map D.str:=by rw[←List.map_append];rfl
 have zc:(((Zi (ins R p r)).take p).map D.str).length+(((Zi (ins R p r)).drop (p+1)).map D.str).length≤PySem.sizeLine:=Zae (by rw[List.length_map,List.length_map,List.length_take,List.length_drop,tl2];omega)
 have l1:((R.map rowD).length:Int)=(R.length:Int):=by rw[List.length_map]
 have l2:(((Zi R).map D.str).length:Int)=(R.length:Int):=by rw[List.length_map,tl]
 have n1:=hR.n1
 have key:∀u3 u4,Two R u3 u4→∃y3 y4 y6 y7 y8 y9 y10 y11 y12 y13 y14 y15 y16,Two (ins R p r) y3 y4∧Gen.Zct [a0,some (.fz (.int so)),some (.fz (.int (n:Int))),u3,u4,some (.fz (.int c)),x6,x7,x8,x9,x10,x11,x12,x13,x14,x15,x16]=some (.nx [a0,some (.fz (.int so)),some (.fz (.int (n:Int))),y3,y4,some (.fz (.int c)),y6,y7,y8,y9,y10,y11,y12,y13,y14,y15,y16]):=by
  intro u3 u4 hu
  obtain⟨y12,y13,y14,y15,y16,inn⟩:=Ztf a0 (some (.fz (.int so))) (some (.fz (.int (n:Int)))) u4 (some (.fz (.int c))) (some (.fz (.int (p:Int)))) (some (.fz (.lst (dueL R p r R 0)))) (some (.fz (.lst ((ins R p r).map rowD)))) (some (.ol ((Zi (ins R p r)).map D.str))) P R 0 x12 x13 x14 x15 x16 (List.drop_zero ..) (Nat.zero_le _)
  rw[Zpm,Zte P]at inn
  refine⟨some (.fz (Zap (ins R p r))),some (.fz (.lst ((Zi (ins R p r)).map D.str))),some (.fz (rowD r)),some (.fz (.int (p:Int))),some (.fz (.lst (dueL R p r R 0))),some (.fz (.lst ((ins R p r).map rowD))),some (.fz (.lst ((Zi (ins R p r)).map D.str))),some (.ol ((newL R p r).map D.str)),y12,y13,y14,y15,y16,.inr ⟨rfl,rfl⟩,?_⟩
  have e1:Gen.Zbo [.lst (R.map rowD),.lst (r.map D.str),.int (p:Int)]=some (.ol (dueL R p r R 0)):=e1
  have e2:Gen.Zbc [.lst (R.map rowD),.lst (r.map D.str),.int (p:Int)]=some (.ol ((ins R p r).map rowD)):=e2
  have er:Gen.Zay [.int so,.int (n:Int),.int c]=some (.ol (r.map D.str)):=er
  have inn:forD (Zg 12) Gen.Zdk (dueL R p r R 0) [a0,some (.fz (.int so)),some (.fz (.int (n:Int))),some (.fz (.lst (R.map rowD))),u4,some (.fz (.int c)),some (.fz (.lst (r.map D.str))),some (.fz (.int (p:Int))),some (.fz (.lst (dueL R p r R 0))),some (.fz (.lst ((ins R p r).map rowD))),some (.ol ((Zi (ins R p r)).map D.str)),some (.ol ((Zi R).map D.str)),x12,x13,x14,x15,x16]=_:=inn
  have hu:(u3=some (.ol (R.map rowD))∧u4=some (.ol ((Zi R).map D.str)))∨(u3=some (.fz (.lst (R.map rowD)))∧u4=some (.fz (.lst ((Zi R).map D.str)))):=hu
  show Gen.Zct _=some (.nx [a0,some (.fz (.int so)),some (.fz (.int (n:Int))),some (.fz (.lst ((ins R p r).map rowD))),some (.fz (.lst ((Zi (ins R p r)).map D.str))),some (.fz (.int c)),some (.fz (.lst (r.map D.str))),some (.fz (.int (p:Int))),some (.fz (.lst (dueL R p r R 0))),some (.fz (.lst ((ins R p r).map rowD))),some (.fz (.lst ((Zi (ins R p r)).map D.str))),some (.ol ((newL R p r).map D.str)),y12,y13,y14,y15,y16])
  have inn:forD (Zg 12) Gen.Zdk (dueL R p r R 0) [a0,some (.fz (.int so)),some (.fz (.int (n:Int))),some (.fz (.lst (R.map rowD))),u4,some (.fz (.int c)),some (.fz (.lst (r.map D.str))),some (.fz (.int (p:Int))),some (.fz (.lst (dueL R p r R 0))),some (.fz (.lst ((ins R p r).map rowD))),some (.ol ((Zi (ins R p r)).map D.str)),some (.ol ((Zi R).map D.str)),x12,x13,x14,x15,x16]=some (.nx [a0,some (.fz (.int so)),some (.fz (.int (n:Int))),some (.fz (.lst (R.map rowD))),u4,some (.fz (.int c)),some (.fz (.lst (r.map D.str))),some (.fz (.int (p:Int))),some (.fz (.lst (dueL R p r R 0))),some (.fz (.lst ((ins R p r).map rowD))),some (.ol ((Zi (ins R p r)).map D.str)),some (.ol ((newL R p r).map D.str)),y12,y13,y14,y15,y16]):=inn
  have hp0:c / 5 % ((R.length:Int)+1)=(p:Int):=hp
  have zlI:(zs.length:Int)=((dueL R p r R 0).length:Int):=by rw[zl]
  generalize hT:((Zi (ins R p r)).take p).map D.str=TK at*
  generalize hD:((Zi (ins R p r)).drop (p+1)).map D.str=DR at*
  generalize hDL:dueL R p r R 0=DL0 at*
  generalize hDI:(dueI R p r R 0).map D.int=DI at*
  generalize (Zi (ins R p r)).map D.str=TN at*
  generalize (newL R p r).map D.str=NL at*
  generalize hTO:(Zi R).map D.str=TO at*
  generalize (ins R p r).map rowD=IR at*
  generalize hRR:R.map rowD=RR at*
  generalize r.map D.str=RW at*
  generalize hPI:(p:Int)=pI at*
  generalize hRL:(R.length:Int)=rI at*
  rcases hu with⟨rfl,rfl⟩|⟨rfl,rfl⟩
  ·unfold Gen.Zct
   simp[-forD,-Zde,-eqM,er,l1,l2,hp0,d0,e1,e2,e3,inn,c2,c3,srt1,ei,c4,zlI,es,g1,et,Zbm,cu1,cu2,ca,zc]
  ·unfold Gen.Zct
   simp[-forD,-Zde,-eqM,er,l1,l2,hp0,d0,e1,e2,e3,inn,c2,c3,srt1,ei,c4,zlI,es,g1,et,Zbm,cu1,cu2,ca,zc]
 obtain⟨y3,y4,y6,y7,y8,y9,y10,y11,y12,y13,y14,y15,y16,h1,h2⟩:=key s3 s4 h34
 exact⟨ins R p r,y3,y4,y6,y7,y8,y9,y10,y11,y12,y13,y14,y15,y16,P.new,Zex R r P.hp,h1,h2⟩
end My
namespace My
open DL PySem SX
theorem Zwy{n:Nat}(so:Int)(a0:Option SV):∀(cs:List Int) (R:List (List Str)) (s3 s4 x5 x6 x7 x8 x9 x10 x11 x12 x13 x14 x15 x16:Option SV),Rows' R n→R.length+cs.length≤20→Two R s3 s4→
  ∃δ,forD (Zg 5) Gen.Zct (cs.map D.int) [a0,some (.fz (.int so)),some (.fz (.int (n:Int))),s3,s4,x5,x6,x7,x8,x9,x10,x11,x12,x13,x14,x15,x16]=some (.nx δ)
 | [],R,s3,s4,x5,x6,x7,x8,x9,x10,x11,x12,x13,x14,x15,x16,_,_,_=>⟨_,rfl⟩
 |c::cs,R,s3,s4,x5,x6,x7,x8,x9,x10,x11,x12,x13,x14,x15,x16,hR,hl,h34=>by
  rw[List.length_cons]at hl
  obtain⟨R',y3,y4,y6,y7,y8,y9,y10,y11,y12,y13,y14,y15,y16,hR',l',h',e⟩:=turn hR (by omega) so c a0 s3 s4 x6 x7 x8 x9 x10 x11 x12 x13 x14 x15 x16 h34
  obtain⟨δ,ih⟩:=Zwy so a0 cs R' y3 y4 (some (.fz (.int c))) y6 y7 y8 y9 y10 y11 y12 y13 y14 y15 y16 hR' (by omega) h'
  exact⟨δ,(Zas (δ1:=[a0,some (.fz (.int so)),some (.fz (.int (n:Int))),s3,s4,some (.fz (.int c)),x6,x7,x8,x9,x10,x11,x12,x13,x14,x15,x16]) (by simp) e).trans ih⟩
theorem law_true(ns:List Int)(hns:ns.length≤63):Gen.Zgb [.lst (ns.map D.int)]=some (.fz (.bl true)):=by
 obtain⟨c0,e0⟩:=Znc ns 0
 obtain⟨c1,e1⟩:=Znc ns 1
 have i0:((0:Nat):Int)=0:=rfl
 have i1:((1:Nat):Int)=1:=rfl
 rw[i0]at e0
 rw[i1]at e1
 obtain⟨ms,em,hm⟩:∃ms:List Int,cutD (ns.map D.int) (some 2) (some 16)=ms.map D.int∧ms.length≤14:=by
  obtain⟨ms,e,l⟩:=Zsu ns (some 2) (some 16)
  refine⟨ms,e,?_⟩
  have:(cutD (ns.map D.int) (some 2) (some 16)).length≤14:=by
   unfold cutD HT.sIx
   simp
   omega
  rw[e,List.length_map]at this
  exact this
 have m0:=Int.emod_nonneg c1 (show(4:Int)≠0 by decide)
 have m1:=Int.emod_lt_of_pos c1 (show(0:Int)<4 by decide)
 obtain⟨n,hn⟩:=Int.eq_ofNat_of_zero_le (show 0≤1+c1 % 4 by omega)
 have hR:Rows' [] n:=⟨by simp,by omega,by omega,fun _ h=>nomatch h⟩
 generalize hA:(some (.fz (.lst (ns.map D.int))):Option SV)=A
 obtain⟨δ,e⟩:=Zwy c0 A ms [] (some (.ol [])) (some (.ol [])) none none none none none none none none none none none none hR (by simp;omega) (.inl ⟨rfl,rfl⟩)
 subst hA
 generalize (n:Int)=nI at*
 generalize ns.map D.int=NS at*
 generalize ms.map D.int=MS at*
 unfold Gen.Zgb Gen.Zsz
 simp[-forD,e0,e1,em,hn,e]
end My
def PySem.W.Fast.tw11514653284345950840:=()
def PySem.W.Fast.tw12016642635598677402:=()
def PySem.W.Fast.tw10826569724754477566:=()
def PySem.W.Fast.tw15290145260558074941:=()
def PySem.W.Fast.tw11024710643920732302:=()
def PySem.W.Fast.tw9968226168586049376:=()
def PySem.W.Fast.tw10317475065848666290:=()
def PySem.W.Fast.tw9446098851710709379:=()
open PySem PySem.W PyProof.Rows
set_option maxRecDepth 100000 in
set_option maxHeartbeats 0 in
theorem PySem.Challenge.cw_citeward_k45_whole_works_put_in_one_by_o_holds : PySem.Challenge.rw_citeward_k45_whole_works_put_in_one_by_o.Holds := by
  w_on; o_law; k_head; (case hw => w_witness2)
  k_fill
  refine Gen.walk (l := PySem.Challenge.rw_citeward_k45_whole_works_put_in_one_by_o) rfl rfl (fun w h Y => PySem.W.kIn_of Y) ?F My.law_true
  case F =>
    intro w mg fa h KX G hmg
    refine' Gen.Zwq KX G hmg ?ax0 ?Fx0 ?kx0 ?ax1 ?Fx1 ?kx1 ?ax2 ?Fx2 ?kx2 ?ax3 ?Fx3 ?kx3 ?ax4 ?Fx4 ?kx4 ?ax5 ?Fx5 ?kx5 ?ax6 ?Fx6 ?kx6 ?ax7 ?Fx7 ?kx7 ?ax8 ?Fx8 ?kx8 ?ax9 ?Fx9 ?kx9 ?ax10 ?Fx10 ?kx10 ?ax11 ?Fx11 ?kx11 ?ax12 ?lx12 ?cx12 ?kx12 ?zenumerate ?zlen ?zlist ?zrange ?zset ?zsorted ?zstr ?zx0
    (case ax0 => k_is)
    (case Fx0 => exact ⟨_, L2.Zbj (by k_is) (by k_is) (by k_is)⟩)
    (case kx0 => k_is)
    (case ax1 => k_is)
    (case Fx1 => exact ⟨_, L2.Zbj (by k_is) (by k_is) (by k_is)⟩)
    (case kx1 => k_is)
    (case ax2 => k_is)
    (case Fx2 => exact ⟨_, L2.Zbj (by k_is) (by k_is) (by k_is)⟩)
    (case kx2 => k_is)
    (case ax3 => k_is)
    (case Fx3 => exact ⟨_, L2.Zbj (by k_is) (by k_is) (by k_is)⟩)
    (case kx3 => k_is)
    (case ax4 => k_is)
    (case Fx4 => exact ⟨_, L2.Zbj (by k_is) (by k_is) (by k_is)⟩)
    (case kx4 => k_is)
    (case ax5 => k_is)
    (case Fx5 => exact ⟨_, L2.Zbj (by k_is) (by k_is) (by k_is)⟩)
    (case kx5 => k_is)
    (case ax6 => k_is)
    (case Fx6 => exact ⟨_, L2.Zbj (by k_is) (by k_is) (by k_is)⟩)
    (case kx6 => k_is)
    (case ax7 => k_is)
    (case Fx7 => exact ⟨_, L2.Zbj (by k_is) (by k_is) (by k_is)⟩)
    (case kx7 => k_is)
    (case ax8 => k_is)
    (case Fx8 => exact ⟨_, L2.Zbj (by k_is) (by k_is) (by k_is)⟩)
    (case kx8 => k_is)
    (case ax9 => k_is)
    (case Fx9 => exact ⟨_, L2.Zbj (by k_is) (by k_is) (by k_is)⟩)
    (case kx9 => k_is)
    (case ax10 => k_is)
    (case Fx10 => exact ⟨_, L2.Zbj (by k_is) (by k_is) (by k_is)⟩)
    (case kx10 => k_is)
    (case ax11 => k_is)
    (case Fx11 => exact ⟨_, L2.Zbj (by k_is) (by k_is) (by k_is)⟩)
    (case kx11 => k_is)
    (case ax12 => k_is)
    (case lx12 => k_is)
    (case cx12 => k_is)
    (case kx12 => k_is)
    (case zenumerate => k_is)
    (case zlen => k_is)
    (case zlist => k_is)
    (case zrange => k_is)
    (case zset => k_is)
    (case zsorted => k_is)
    (case zstr => k_is)
    (case zx0 => k_is)
