import PyProof.Rows.All
import Wide.All
import OpenK.AllK
import Wide.FinOn
import Lean
import PyProof.EqAt
import PyProof.EqKinds
import PyProof.TupleCall
import PyProof.NeKinds
import PyProof.EnumMake
import PyProof.ConsumeWalk
import PyProof.StrWalks
import PyProof.WalksMore
import PyProof.StrLawsNeg
import PySem.Challenge.RW_citeward_k51_lists_read
set_option Elab.async false
set_option linter.all false
set_option genSizeOf false
set_option genSizeOfSpec false
set_option maxRecDepth 100000
set_option maxHeartbeats 4000000
namespace L2
open PySem PySem.Spec PyProof.Rows
noncomputable abbrev Key:=Sum Int Str
noncomputable def Zdv:Key→Value→Bool
 | .inl k,v=>Value.isInt k v
 | .inr x,v=>Value.isStrOf x v
noncomputable def keyH(w:World):Key→Int
 | .inl k=>hashInt k
 | .inr x=>hashStr w x
theorem Zp:∀{k:Key} {v:Value},Zdv k v=true→(∃i t,k=Sum.inl i∧v=Value.int i t)∨(∃x t,k=Sum.inr x∧v=Value.str x t)
 | .inl i,v,h=>by
  obtain⟨t,e⟩:=Value.isInt_shape (k:=i) (v:=v) h
  exact .inl ⟨i,t,rfl,e⟩
 | .inr x,v,h=>by
  obtain⟨t,e⟩:=Value.isStrOf_shape (x:=x) (v:=v) h
  exact .inr ⟨x,t,rfl,e⟩
theorem Zl1(i:Int)(t:Tok):Zdv (.inl i) (.int i t)=true:=by simp[Zdv,Value.isInt]
theorem Zl2(x:Str)(t:Tok):Zdv (.inr x) (.str x t)=true:=by simp[Zdv,Value.isStrOf]
theorem Zu7(a b:Int):decide ((Sum.inl a:Key)=Sum.inl b)=(a==b):=by
 by_cases e:a=b
 ·subst e;simp
 ·have h:¬(Sum.inl a:Key)=Sum.inl b:=fun q=>e (Sum.inl.inj q)
  rw[decide_eq_false h]
  exact(beq_eq_false_iff_ne.mpr e).symm
theorem Zu8(a b:Str):decide ((Sum.inr a:Key)=Sum.inr b)=decide (a=b):=by
 by_cases e:a=b
 ·subst e;simp
 ·have h:¬(Sum.inr a:Key)=Sum.inr b:=fun q=>e (Sum.inr.inj q)
  rw[decide_eq_false h,decide_eq_false e]
theorem Zu9(a:Int)(b:Str):decide ((Sum.inl a:Key)=Sum.inr b)=false:=decide_eq_false (fun q=>nomatch q)
theorem Zva(a:Str)(b:Int):decide ((Sum.inr a:Key)=Sum.inl b)=false:=decide_eq_false (fun q=>nomatch q)
noncomputable def Zm(prog:Program)(w:World):PySem.KeyKind prog w Key where
 is:=Zdv
 hash:=keyH w
 inj:=fun v a b ha hb=>by
  rcases Zp ha with⟨i,t,rfl,rfl⟩|⟨x,t,rfl,rfl⟩
  ·rcases Zp hb with⟨j,u,rfl,e⟩|⟨y,u,rfl,e⟩
   ·injection e with e1 _;rw[e1]
   ·exact nomatch e
  ·rcases Zp hb with⟨j,u,rfl,e⟩|⟨y,u,rfl,e⟩
   ·exact nomatch e
   ·injection e with e1 _;rw[e1]
 byValue:=fun k v h=>by
  rcases Zp h with⟨i,t,rfl,rfl⟩|⟨x,t,rfl,rfl⟩<;> rfl
 pyHash:=fun hv h=>by
  rcases Zp hv with⟨i,t,rfl,rfl⟩|⟨x,t,rfl,rfl⟩
  ·exact wpAny_pyHash_int h
  ·exact wpAny_pyHash_str h
 eqBool:=fun hu hv h=>by
  rcases Zp hu with⟨i,t,rfl,rfl⟩|⟨x,t,rfl,rfl⟩
  ·rcases Zp hv with⟨j,u,rfl,rfl⟩|⟨y,u,rfl,rfl⟩
   ·rw[Zu7]at h;exact wpAny_eqBool_int h
   ·rw[Zu9]at h;exact SeqAt.EqAt.int_str i t y u _ _ _ _ h
  ·rcases Zp hv with⟨j,u,rfl,rfl⟩|⟨y,u,rfl,rfl⟩
   ·rw[Zva]at h;exact SeqAt.EqAt.str_int x t j u _ _ _ _ h
   ·rw[Zu8]at h;exact wpAny_eqBool_str h
 «strs»:=fun k x t v h=>by
  rcases Zp h with⟨i,u,rfl,e⟩|⟨y,u,rfl,e⟩
  ·exact nomatch e
  ·injection e with e1 _
   subst e1
   cases v<;> rfl
theorem Zu3(prog:Program)(w:World)(k:Key)(v:Value):(Zm prog w).is k v=Zdv k v:=rfl
theorem Zib(prog:Program)(w:World)(i:Int)(t:Tok):(Zm prog w).is (.inl i) (.int i t)=true:=Zl1 i t
theorem Zic(prog:Program)(w:World)(x:Str)(t:Tok):(Zm prog w).is (.inr x) (.str x t)=true:=Zl2 x t
end L2
namespace L2
open PySem PySem.Spec PyProof.Rows
inductive V where
 |non|bl (b:Bool)|int (i:Int)|str (x:Str)|byt (b:Array UInt8)|flt (b:UInt64)|ref (a:Addr)|ty (n:String)
 deriving DecidableEq
noncomputable def RelV:V→Value→Prop
 | .non,u=>u=Value.none
 | .bl b,u=>u=Value.bool b
 | .int i,u=>∃t,u=Value.int i t
 | .str x,u=>∃t,u=Value.str x t
 | .byt b,u=>∃t,u=Value.bytes b t
 | .flt b,u=>∃t,u=Value.float b t
 | .ref a,u=>u=Value.ref a
 | .ty n,u=>u=Value.type n
noncomputable abbrev Vals:List V→List Value→Prop:=Paired RelV
theorem Vals.length{xs:List V}{us:List Value}(r:Vals xs us):xs.length=us.length:=Paired.length r
theorem Vals.get:∀{xs:List V} {us:List Value} {i:Nat} {x:V},Vals xs us→xs[i]? =some x→∃u,us[i]? =some u∧RelV x u
 |_,_,_,_,.nil,e=>by simp at e
 |_,_,0,_,.cons r _,e=>by simp at e;subst e;exact⟨_,rfl,r⟩
 |_,_,i+1,x,.cons _ t,e=>by
  obtain⟨u,h1,h2⟩:=Vals.get (i:=i) (x:=x) t (by simpa using e)
  exact⟨u,by simpa using h1,h2⟩
theorem Vals.append:∀{xs ys:List V} {us ws:List Value},Vals xs us→Vals ys ws→Vals (xs++ys) (us++ws)
 |_,_,_,_,.nil,s=>s
 |_,_,_,_,.cons r t,s=>.cons r (Vals.append t s)
theorem Vals.take:∀{xs:List V} {us:List Value} (n:Nat),Vals xs us→Vals (xs.take n) (us.take n)
 |_,_,0,_=>.nil
 |_,_,_+1,.nil=>.nil
 |_,_,n+1,.cons r t=>.cons r (Vals.take n t)
theorem Vals.drop:∀{xs:List V} {us:List Value} (n:Nat),Vals xs us→Vals (xs.drop n) (us.drop n)
 |_,_,0,r=>r
 |_,_,_+1,.nil=>.nil
 |_,_,n+1,.cons _ t=>Vals.drop n t
theorem Vals.none_of:∀{xs:List V} {us:List Value} {i:Nat},Vals xs us→xs[i]? =none→us[i]? =none:=fun{xs us i} r e=>by
 have h1:=r.length
 have h2:xs.length≤i:=List.getElem?_eq_none_iff.mp e
 exact List.getElem?_eq_none_iff.mpr (by omega)
noncomputable def RelO:Option V→Option Value→Prop
 |some v,some u=>RelV v u
 |none,none=>True
 |_,_=>False
noncomputable def KV{κ:Type}:List (κ×V)→List (κ×Value)→Prop:=Paired fun(p:κ×V) (q:κ×Value)=>p.1=q.1∧RelV p.2 q.2
noncomputable def kV:Key→V
 | .inl i=>.int i
 | .inr x=>.str x
inductive HO where
 |lst (xs:List V)
 |tup (xs:List V)
 |dK (kvs:List (Key×V)) (ep:Nat)|dT (kvs:List (List Key×V)) (ep:Nat) (bs:List Addr)
 |set (S:Int→Bool) (n:Nat)
 |ins (C dx:Addr) (fs:List (Str×V))
 |own (x:Addr)
 |xd (fs:List (Str×V))
 |met (f x:Addr)
 |rng (lo hi:Int)
 |frz (o:Obj) (u:HO)
 |tbl (ps:Array Value)
 |ext (φ:Heap→Prop)
noncomputable abbrev Hp:=Addr→Option HO
noncomputable def upd(H:Hp)(a:Addr)(o:HO):Hp:=fun b=>if b=a then some o else H b
theorem Z3{H:Hp}{a:Addr}{o:HO}:upd H a o a=some o:=by unfold upd;rw[if_pos rfl]
theorem Zo{H:Hp}{a b:Addr}{o:HO}(h:b≠a):upd H a o b=H b:=by unfold upd;rw[if_neg h]
theorem Zzb{H:Hp}{a b:Addr}{o u:HO}(h:H a=some o)(h':H b=some u)(d:o≠u):a≠b:=by
 intro e;subst e;rw[h]at h';exact d (Option.some.inj h')
theorem Z5{H:Hp}{a b:Addr}{o:HO}(h:H a=some o)(h':H b=none):a≠b:=by
 intro e;subst e;rw[h]at h';cases h'
section
variable(P:Program)(w:World)
noncomputable def Zaq(H:Hp)(h:Heap)(a:Addr):HO→Prop
 | .lst xs=>xs.length≤sizeLine∧∃(its:List Value) (n:Nat),Vals xs its∧h.get? a=some {cls:=.type "list",data:=.seq its.toArray n}
 | .tup xs=>xs.length≤sizeLine∧∃its:List Value,Vals xs its∧IsTup h a its.toArray
 | .dK kvs ep=>kvs.length≤sizeLine∧(a==sysModules)=false∧∃vs,KV kvs vs∧h.DictAt (Zm P w) a vs ep
 | .dT kvs ep bs=>kvs.length≤sizeLine∧(a==sysModules)=false∧∃xs:List (List Key×Addr×Value),
   Paired (fun(p:List Key×V) (q:List Key×Addr×Value)=>p.1=q.1∧H q.2.1=some (.tup (p.1.map kV))∧RelV p.2 q.2.2) kvs xs∧
   ∃o es,h.get? a=some o∧o.ExactDict∧o.data= .dict es ep∧es.toList=xs.map (entryOfKey (tupleKind (Zm P w)))∧(xs.map (·.1)).Nodup∧(xs.map fun x=>x.2.1)=bs
 | .set S n=>h.SetOf (intKind P w) a S n
 | .ins C dx fs=>H dx=some (.own a)∧fs.length≤1000∧dx≠a∧h.get? a=some (PySem.W.instObj C dx)∧
   ∃mA,h.Ns1 dx mA∧(∀f,RelO (fs.lookup f) (mA f))∧PySem.Within mA (fs.map (·.1))
 | .own _=>∃o,h.get? a=some o
 | .xd fs=>∃mA,h.Ns1 a mA∧∀f,RelO (fs.lookup f) (mA f)
 | .rng lo hi=>∃t u v,h.get? a=some {cls:=.type "range",data:=.fields #[.int lo t,.int hi u,.int 1 v]}
 | .frz o u=>h.get? a=some o∧Zaq H h a u
 | .tbl ps=>h.get? a=some {cls:=.none,data:=.fields ps}
 | .met f x=>h.get? a=some (PySem.W.methodObj (.ref f) (.ref x))
 | .ext φ=>φ h∧(∃o,h.get? a=some o)∧∀h1 h2:Heap,φ h1→(∀o,h1.get? a=some o→h2.get? a=some o)→φ h2
noncomputable def HOk(H:Hp)(h:Heap):Prop:=∀a o,H a=some o→Zaq P w H h a o
end
section
variable{P:Program}{w:World}{H H':Hp}{h h':Heap}{a:Addr}{o:HO}
theorem Zaq.lt(x:Zaq P w H h a o):a<h.objs.size:=by
 cases o with
 |lst xs=>obtain⟨_,_,_,_,e⟩:=x;exact Heap.lt_size e
 |tup xs=>obtain⟨_,_,_,p⟩:=x;exact p.lt
 |dK kvs ep=>obtain⟨_,_,_,_,o,_,e,_⟩:=x;exact Heap.lt_size e
 |dT kvs ep bs=>obtain⟨_,_,_,_,o,_,e,_⟩:=x;exact Heap.lt_size e
 |set S n=>obtain⟨o,_,_,_,e,_⟩:=x;exact Heap.lt_size e
 |ins C dx fs=>obtain⟨_,_,_,e,_⟩:=x;exact Heap.lt_size e
 |own y=>obtain⟨_,e⟩:=x;exact Heap.lt_size e
 |xd fs=>obtain⟨_,⟨_,_,_,e,_⟩,_⟩:=x;exact Heap.lt_size e
 |rng lo hi=>obtain⟨_,_,_,e⟩:=x;exact Heap.lt_size e
 |frz ob u=>obtain⟨e,_⟩:=x;exact Heap.lt_size e
 |tbl ps=>exact Heap.lt_size (show h.get? a=some _ from x)
 |met f y=>exact Heap.lt_size (show h.get? a=some _ from x)
 |ext φ=>obtain⟨_,⟨_,e⟩,_⟩:=x;exact Heap.lt_size e
theorem Paired.mapP{α β:Type}{F G:α→β→Prop}{l₁:List α}{l₂:List β}(h:Paired F l₁ l₂)(f:∀a b,F a b→G a b):Paired G l₁ l₂:=by
 induction h with
 |nil=>exact .nil
 |cons r _ ih=>exact .cons (f _ _ r) ih
theorem Zaq.stay(x:Zaq P w H h a o)(k:∀b u,(b=a∨H b=some (.own a))→h.get? b=some u→h'.get? b=some u)
  (ho:∀b,H b=some (.own a)→H' b=some (.own a)) (ht:∀b xs,H b=some (.tup xs)→H' b=some (.tup xs)):Zaq P w H' h' a o:=by
 induction o with
 |lst xs=>obtain⟨z,its,n,r,e⟩:=x;exact⟨z,its,n,r,k _ _ (.inl rfl) e⟩
 |tup xs=>obtain⟨z,its,r,ob,e,c⟩:=x;exact⟨z,its,r,ob,k _ _ (.inl rfl) e,c⟩
 |dK kvs ep=>obtain⟨z,y,vs,r,ob,es,e,c⟩:=x;exact⟨z,y,vs,r,ob,es,k _ _ (.inl rfl) e,c⟩
 |dT kvs ep bs=>
  obtain⟨z,y,xs,r,ob,es,e,c⟩:=x
  exact⟨z,y,xs,Paired.mapP r fun p q z=>⟨z.1,ht _ _ z.2.1,z.2.2⟩,ob,es,k _ _ (.inl rfl) e,c⟩
 |set S n=>obtain⟨ob,es,ep,t,e,c⟩:=x;exact⟨ob,es,ep,t,k _ _ (.inl rfl) e,c⟩
 |ins C dx fs=>
  obtain⟨d,z,ne,e,mA,⟨od,es,ep,e2,c⟩,r⟩:=x
  exact⟨ho _ d,z,ne,k _ _ (.inl rfl) e,mA,⟨od,es,ep,k _ _ (.inr d) e2,c⟩,r⟩
 |own y=>obtain⟨ob,e⟩:=x;exact⟨ob,k _ _ (.inl rfl) e⟩
 |xd fs=>obtain⟨mA,⟨od,es,ep,e,c⟩,r⟩:=x;exact⟨mA,⟨od,es,ep,k _ _ (.inl rfl) e,c⟩,r⟩
 |rng lo hi=>obtain⟨t,u,v,e⟩:=x;exact⟨t,u,v,k _ _ (.inl rfl) e⟩
 |frz ob u ih=>obtain⟨e,q⟩:=x;exact⟨k _ _ (.inl rfl) e,ih q⟩
 |tbl ps=>
  have e:h.get? a=some {cls:=.none,data:=.fields ps}:=x
  show h'.get? a=some {cls:=.none,data:=.fields ps}
  exact k a _ (.inl rfl) e
 |met f y=>
  have e:h.get? a=some (PySem.W.methodObj (.ref f) (.ref y)):=x
  show h'.get? a=some (PySem.W.methodObj (.ref f) (.ref y))
  exact k a _ (.inl rfl) e
 |ext φ=>obtain⟨p,⟨o,e⟩,st⟩:=x;exact⟨st _ _ p fun o q=>k _ _ (.inl rfl) q,⟨o,k _ _ (.inl rfl) e⟩,st⟩
theorem HOk.lt(x:HOk P w H h)(e:H a=some o):a<h.objs.size:=(x a o e).lt
theorem HOk.fresh(x:HOk P w H h)(e:h.objs.size≤a):H a=none:=by
 cases q:H a with
 |none=>rfl
 |some u=>exact absurd (Nat.lt_of_lt_of_le (x.lt q) e) (Nat.lt_irrefl _)
theorem HOk.kept(x:HOk P w H h)(k:∀b u,h.get? b=some u→h'.get? b=some u):HOk P w H h':=fun a o e=>
 (x a o e).stay (fun b u _ q=>k b u q) (fun _ q=>q) fun _ _ q=>q
theorem HOk.laid(x:HOk P w H h)(k:∀b u,h.get? b=some u→h'.get? b=some u)(hp:h.objs.size≤a)(new:Zaq P w (upd H a o) h' a o):HOk P w (upd H a o) h':=fun b u e=>by
 have hn:=x.fresh hp
 by_cases hb:b=a
 ·subst hb;rw[Z3]at e;cases e;exact new
 ·rw[Zo hb]at e
  exact(x b u e).stay (fun c v _ q=>k c v q) (fun c q=>by rw[Zo (Z5 q hn)];exact q) fun c xs q=>by rw[Zo (Z5 q hn)];exact q
end
noncomputable def Rd(H:Hp)(a:Addr)(u:HO):Prop:=H a=some u∨∃o,H a=some (.frz o u)
theorem Rd.ok{P:Program}{w:World}{H:Hp}{h:Heap}{a:Addr}{u:HO}(r:Rd H a u)(x:HOk P w H h):Zaq P w H h a u:=by
 rcases r with r|⟨o,r⟩
 ·exact x a u r
 ·obtain⟨_,q⟩:=x a _ r
  exact q
noncomputable def HK(H:Hp)(a:Addr)(kvs:List (Key×V)):Prop:=∃ep,H a=some (.dK kvs ep)
noncomputable def HTt(H:Hp)(a:Addr)(kvs:List (List Key×V)):Prop:=∃ep bs,H a=some (.dT kvs ep bs)
noncomputable def RdK(H:Hp)(a:Addr)(kvs:List (Key×V)):Prop:=∃ep,Rd H a (.dK kvs ep)
noncomputable def RdT(H:Hp)(a:Addr)(kvs:List (List Key×V)):Prop:=∃ep bs,Rd H a (.dT kvs ep bs)
theorem HK.rd{H:Hp}{a:Addr}{kvs:List (Key×V)}(h:HK H a kvs):RdK H a kvs:=let⟨ep,h⟩:=h;⟨ep,.inl h⟩
noncomputable def putB(kvs:List (List Key×V))(bs:List Addr)(k:List Key)(b:Addr):List Addr:=if(kvs.any fun kv=>decide (kv.1=k))=true then bs else bs++[b]
theorem HTt.rd{H:Hp}{a:Addr}{kvs:List (List Key×V)}(h:HTt H a kvs):RdT H a kvs:=let⟨ep,bs,h⟩:=h;⟨ep,bs,.inl h⟩
noncomputable def Mut:Option HO→Prop
 |some (.lst _)=>True
 |some (.dK _ _)=>True
 |some (.dT _ _ _)=>True
 |some (.set _ _)=>True
 |some (.ins _ _ _)=>True
 |some (.ext _)=>True
 |_=>False
section
variable{P:Program}{w:World}{H:Hp}{h h':Heap}{x e:Addr}{o':HO}
theorem HOk.write(ok:HOk P w H h)(mu:Mut (H x))(he:e=x∨H e=some (.own x))(k:∀b u,b≠e→h.get? b=some u→h'.get? b=some u)(heo:∃u,h'.get? e=some u)
  (new:Zaq P w (upd H x o') h' x o'):HOk P w (upd H x o') h':=fun b u q=>by
 have nown:∀c y,H c=some (.own y)→c≠x:=fun c y r z=>by subst z;rw[r]at mu;exact mu
 have ntup:∀c xs,H c=some (.tup xs)→c≠x:=fun c xs r z=>by subst z;rw[r]at mu;exact mu
 by_cases hb:b=x
 ·subst hb;rw[Z3]at q;cases q;exact new
 ·rw[Zo hb]at q
  by_cases hbe:b=e
  ·have q':H b=some (.own x):=by
    rcases he with z|z
    ·exact absurd (hbe.trans z) hb
    ·rw[hbe];exact z
   rw[q]at q';cases q'
   obtain⟨v,hv⟩:=heo
   exact⟨v,by rw[hbe];exact hv⟩
  ·refine(ok b u q).stay (fun c v hc r=>k c v ?_ r) (fun c r=>by rw[Zo (nown c b r)];exact r) fun c xs r=>by rw[Zo (ntup c xs r)];exact r
   rcases hc with rfl|hc
   ·exact hbe
   ·rintro rfl
    rcases he with z|z
    ·exact nown c b hc z
    ·rw[hc]at z;cases z;exact hb rfl
end
structure Un(fs ex:List Addr)(H H':Hp)(h h':Heap):Prop where
 keep:∀b o,h.get? b=some o→H b=none→b∉fs→b∉ex→h'.get? b=some o
 slot:∀b o,h.get? b=some o→H b=none→b∈fs→b∉ex→∃sl,h'.get? b=some {o with slots:=sl}
 free:∀b o,h.get? b=some o→H b=none→b∉ex→H' b=none
 there:∀b o,h.get? b=some o→b∉ex→∃o',h'.get? b=some o'
 tups:∀b xs,H b=some (.tup xs)→H' b=some (.tup xs)
 frzs:∀b o u,H b=some (.frz o u)→H' b=some (.frz o u)
 tbls:∀b ps,H b=some (.tbl ps)→∃more,H' b=some (.tbl (ps++more))
section
variable{fs fs' ex ex':List Addr}{H H1 H2:Hp}{h h1 h2 h':Heap}{a x e:Addr}{o:HO}
theorem Un.any(u:Un fs ex H H1 h h1){b:Addr}{ob:Obj}(q:h.get? b=some ob)(n:H b=none)(hx:b∉ex):∃sl,h1.get? b=some {ob with slots:=sl}:=by
 by_cases hb:b∈fs
 ·exact u.slot b ob q n hb hx
 ·exact⟨ob.slots,u.keep b ob q n hb hx⟩
theorem Un.kept(k:∀b u,h.get? b=some u→h'.get? b=some u):Un fs ex H H h h':=
 ⟨fun b ob q _ _ _=>k b ob q,fun b ob q _ _ _=>⟨ob.slots,k b ob q⟩,fun _ _ _ n _=>n,fun b ob q _=>⟨ob,k b ob q⟩,fun _ _ q=>q,fun _ _ _ q=>q,fun _ ps q=>⟨#[],by rw[q];simp⟩⟩
theorem Un.refl:Un fs ex H H h h:=Un.kept fun _ _ q=>q
theorem Un.laid(k:∀b u,h.get? b=some u→h'.get? b=some u)(hp:h.objs.size≤a)(hn:H a=none):Un fs ex H (upd H a o) h h' where
 keep:=fun b u q _ _ _=>k b u q
 slot:=fun b u q _ _ _=>⟨u.slots,k b u q⟩
 free:=fun b u q n _=>by rw[Zo (Nat.ne_of_lt (Nat.lt_of_lt_of_le (Heap.lt_size q) hp))];exact n
 there:=fun b u q _=>⟨u,k b u q⟩
 tups:=fun b xs q=>by rw[Zo (Z5 q hn)];exact q
 frzs:=fun b u xs q=>by rw[Zo (Z5 q hn)];exact q
 tbls:=fun b ps q=>⟨#[],by rw[Zo (Z5 q hn),q];simp⟩
theorem Un.write(mu:Mut (H x))(he:e=x∨H e=some (.own x))(k:∀b u,b≠e→h.get? b=some u→h'.get? b=some u)(heo:∃u,h'.get? e=some u):Un fs ex H (upd H x o) h h':=by
 have hx:∀b,H b=none→b≠x:=fun b n z=>by subst z;rw[n]at mu;exact mu
 have hb:∀b,H b=none→b≠e:=fun b n z=>by
  subst z
  rcases he with r|r
  ·exact hx b n r
  ·rw[n]at r;cases r
 have hm:∀b u,H b=some u→¬Mut (some u)→b≠x:=fun b u q nm z=>by subst z;rw[q]at mu;exact nm mu
 refine⟨fun b u q n _ _=>k b u (hb b n) q,fun b u q n _ _=>⟨u.slots,k b u (hb b n) q⟩,fun b u q n _=>by rw[Zo (hx b n)];exact n,fun b u q _=>?_,
  fun b xs q=>by rw[Zo (hm b _ q fun z=>z)];exact q,fun b u xs q=>by rw[Zo (hm b _ q fun z=>z)];exact q,fun b ps q=>⟨#[],by rw[Zo (hm b _ q fun z=>z),q];simp⟩⟩
 by_cases hbe:b=e
 ·subst hbe;exact heo
 ·exact⟨u,k b u hbe q⟩
end
noncomputable def trk(h:Heap)(H:Hp):List Addr:=(List.range h.objs.size).filter fun a=>(H a).isSome
noncomputable def hidT(h:Heap)(H:Hp):Heap:=PySem.W.hideAll h (trk h H)
theorem Zl3(h:Heap)(H:Hp):(hidT h H).objs.size=h.objs.size:=PySem.W.hideAll_size _ _
theorem Zpk{h:Heap}{H:Hp}{b:Addr}{o:Obj}(e:h.get? b=some o)(n:H b=none):(hidT h H).get? b=some o:=
 PySem.W.hideAll_get _ e fun hm=>by
  have q:(H b).isSome=true:=(List.mem_filter.mp hm).2
  rw[n]at q;simp at q
theorem Zsm{h:Heap}{H:Hp}{b:Addr}{o:Obj}(e:(hidT h H).get? b=some o):h.get? b=some o∧H b=none:=by
 have e':h.get? b=some o:=PySem.W.of_hideAll (trk h H) e
 refine⟨e',?_⟩
 cases q:H b with
 |none=>rfl
 |some x=>
  have hm:b∈trk h H:=List.mem_filter.mpr ⟨List.mem_range.mpr (Heap.lt_size e'),by simp[q]⟩
  have z:(hidT h H).get? b=none:=PySem.W.hideAll_none (trk h H) hm
  rw[z]at e;cases e
noncomputable def Zsn(g h:Heap)(L:Addr):List (Addr×Obj):=(List.range h.objs.size).filterMap fun a=>if a=L∨(g.get? a).isSome=true then none else(h.get? a).map fun o=>(a,o)
noncomputable def rest(g h:Heap)(L d:Addr):List (Addr×Obj):=(Zsn g h L).filter fun p=>decide (p.1≠d)
end L2
namespace L2
open PySem PySem.Spec PyProof.Rows
structure Mod(K:PySem.W.Frag)(mg:Str→Option Value)(base:Heap):Prop where
 kin:K.In base
 glob:base.Ns mainGlobals mg
 blt:∃mb,base.Ns builtinsNs mb∧∀x:Str,x≠"__name__"→mb x=bootBuiltins x
 nolimit:base.NoLimit
set_option genInjectivity false in
structure Cx where
 prog:Program
 w:World
 K:PySem.W.Frag
 mg:Str→Option Value
 base:Heap
 A:Around
 N:List Str
 s₀:Shared
 H₀:Hp
 env:Env
 outer:List Env
 stack:List Env
 ex:List Addr
 fn:Str→Bool
 calm:Bool
 pn:List (Addr×Obj)
 xe:Value→Shared→Prop
noncomputable def frs(l:List Env):List Addr:=l.filterMap (·.frame)
noncomputable abbrev Cx.fs(X:Cx):List Addr:=frs X.outer
noncomputable def Vis(sc:Scope)(x:Str):Prop:=sc.names.lookup x=some .local∨sc.names.lookup x=some .cell∨sc.names.lookup x=some .free
noncomputable def Loc(sc:Scope)(x:Str):Prop:=sc.names.lookup x=some .local∨sc.names.lookup x=some .cell
noncomputable def Look(env:Env)(h:Heap)(m:Str→Option Value)(x:Str)(u:Value):Prop:=
 (env.kindOf x=some .local∧m x=some u)∨((env.kindOf x=some .cell∨env.kindOf x=some .free)∧∃c,env.cells.lookup x=some c∧h.IsCell c (some u))
set_option genInjectivity false in
structure Cx.Ok(X:Cx):Prop where
 mod:Mod X.K X.mg X.base
 kind:X.env.scope.kind= .function
 glob:X.env.globals=mainGlobals
 blt:X.env.builtins=builtinsNs
 above:X.s₀.heap.objs.size≤X.env.locals
 inj:∀x y c,X.env.cells.lookup x=some c→X.env.cells.lookup y=some c→x=y
 has:∀x,(X.env.kindOf x=some .cell∨X.env.kindOf x=some .free)→∃c,X.env.cells.lookup x=some c
 cab:∀x c,X.fn x=true→X.env.cells.lookup x=some c→X.s₀.heap.objs.size≤c
 hd:X.calm=true→X.A.handled=none
 frames:X.A.frames=some X.stack
 stk:X.stack=X.outer∨(X.stack=X.env::X.outer∧X.env.frame=some X.env.locals)
 exf:∀b∈X.ex,b≠X.env.locals∧∀x c,X.env.cells.lookup x=some c→c≠b
 bs:∀b o,X.base.get? b=some o→X.s₀.heap.get? b=some o∧X.H₀ b=none
 bsz:X.base.objs.size≤X.s₀.heap.objs.size
 noex:∀b o,X.base.get? b=some o→b∉X.ex
 exfs:∀b∈X.ex,b∉X.fs
 funs:X.s₀.heap.FunFrames X.base X.outer
 frf:∀b∈X.fs,X.H₀ b=none
structure Inv(X:Cx)(pins:List (Addr×Obj))(σ:List (Option V))(H:Hp)(s:Shared):Prop where
 ok:X.Ok
 os:s.os=X.s₀.os
 bare:AllBare s.gens
 base:Un X.fs X.ex X.H₀ H X.s₀.heap s.heap
 loc:∃m,s.heap.Ns X.env.locals m∧∀(i:Nat) (x:Str) (v:V),X.N[i]? =some x→σ[i]? =some (some v)→Vis X.env.scope x→∃u,RelV v u∧Look X.env s.heap m x u
 cell:∀x c,X.env.cells.lookup x=some c→∃v,s.heap.IsCell c v
 free:H X.env.locals=none
 freeC:∀x c,X.env.cells.lookup x=some c→H c=none
 pin:∀p∈X.pn++pins,s.heap.get? p.1=some p.2∧H p.1=none∧p.1≠X.env.locals∧p.1∉X.fs∧∀v,p.2.data≠.cell v
 hok:HOk X.prog X.w H s.heap
 len:σ.length=X.N.length
section
variable{X:Cx}{pins:List (Addr×Obj)}{σ:List (Option V)}{H H':Hp}{s:Shared}{h':Heap}
theorem Cx.Ok.nofr(ok:X.Ok){b:Addr}{o:Obj}(e:X.base.get? b=some o):b∉X.fs:=fun hb=>by
 have:=(ok.funs.mem hb).1
 rw[e]at this;cases this
theorem Inv.bs(I:Inv X pins σ H s):∀b o,X.base.get? b=some o→s.heap.get? b=some o∧H b=none:=fun b o e=>
 ⟨I.base.keep b o (I.ok.bs b o e).1 (I.ok.bs b o e).2 (I.ok.nofr e) (I.ok.noex b o e),I.base.free b o (I.ok.bs b o e).1 (I.ok.bs b o e).2 (I.ok.noex b o e)⟩
theorem Inv.bk(I:Inv X pins σ H s):∀b o,X.base.get? b=some o→s.heap.get? b=some o:=fun b o e=>(I.bs b o e).1
theorem Inv.mod(I:Inv X pins σ H s):Mod X.K X.mg X.base:=I.ok.mod
theorem Inv.kIn(I:Inv X pins σ H s):X.K.In s.heap:=I.ok.mod.kin.keeps I.bk
theorem Inv.lt(I:Inv X pins σ H s):X.env.locals<s.heap.objs.size:=let⟨_,hn,_⟩:=I.loc;hn.lt
theorem Inv.sz(I:Inv X pins σ H s):X.s₀.heap.objs.size≤s.heap.objs.size:=Nat.le_trans I.ok.above (Nat.le_of_lt I.lt)
theorem Inv.nofs(I:Inv X pins σ H s){a:Addr}(h:s.heap.objs.size≤a):a∉X.fs:=fun hb=>by
 obtain⟨_,o,ho,_⟩:=I.ok.funs.mem hb
 exact absurd (Nat.lt_of_lt_of_le (Heap.lt_size ho) (Nat.le_trans I.sz h)) (Nat.lt_irrefl _)
theorem Inv.cne(I:Inv X pins σ H s):∀x c,X.env.cells.lookup x=some c→c≠X.env.locals:=fun x c e z=>by
 obtain⟨v,o,ho,hd⟩:=I.cell x c e
 obtain⟨m,⟨o',es,ep,ho',hd',_⟩,_⟩:=I.loc
 rw[z,ho']at ho;cases ho;rw[hd']at hd;cases hd
theorem Inv.funs(I:Inv X pins σ H s):s.heap.FunFrames X.base X.outer:=by
 have all:∀(l:List Env),(∀b∈frs l,b∈X.fs)→X.s₀.heap.FunFrames X.base l→s.heap.FunFrames X.base l:=by
  intro l
  induction l with
  |nil=>intro _ _;trivial
  |cons env r ih=>
   intro hs hl
   obtain⟨hk,⟨L,o,hf,hn,ho,hd⟩,hr⟩:=hl
   have hL:L∈X.fs:=hs L (by unfold frs;rw[List.filterMap_cons,hf];exact List.mem_cons_self)
   obtain⟨sl,e⟩:=I.base.slot L o ho (I.ok.frf L hL) hL fun z=>I.ok.exfs L z hL
   exact⟨hk,⟨L,_,hf,hn,e,hd⟩,ih (fun b hb=>hs b (by unfold frs;rw[List.filterMap_cons,hf];exact List.mem_cons_of_mem _ hb)) hr⟩
 exact all X.outer (fun _ hb=>hb) I.ok.funs
theorem Inv.stack(I:Inv X pins σ H s):s.heap.FunFrames X.base X.stack:=by
 rcases I.ok.stk with e|⟨e,hf⟩
 ·rw[e];exact I.funs
 ·rw[e]
  obtain⟨m,hn,_⟩:=I.loc
  refine .cons (by rw[I.ok.kind];decide) hf hn ?_ I.funs
  exact Heap.get?_none_of_le (Nat.le_trans I.ok.bsz I.ok.above)
theorem Inv.stkSub(I:Inv X pins σ H s):∀b∈frs X.stack,b∈X.env.locals::X.fs:=fun b hb=>by
 rcases I.ok.stk with e|⟨e,hf⟩
 ·rw[e]at hb;exact List.mem_cons_of_mem _ hb
 ·rw[e]at hb
  unfold frs at hb
  rw[List.filterMap_cons,hf]at hb
  exact hb
theorem Inv.stkFree(I:Inv X pins σ H s):∀b∈frs X.stack,H b=none:=fun b hb=>by
 rcases List.mem_cons.mp (I.stkSub b hb)with e|hb
 ·rw[e];exact I.free
 ·obtain⟨_,o,ho,_⟩:=I.ok.funs.mem hb
  exact I.base.free b o ho (I.ok.frf b hb) fun z=>I.ok.exfs b z hb
theorem Inv.step{g':Array GenState}{t':Nat}{d':Drawn}{ch:List Addr}(I:Inv X pins σ H s)
  (hch:∀b∈ch,(b∈X.ex∨X.s₀.heap.objs.size≤b)∧b≠X.env.locals∧(∀x c,X.env.cells.lookup x=some c→c≠b)∧∀p∈X.pn++pins,p.1≠b)
  (keep:∀b o,b≠X.env.locals→b∉X.fs→b∉ch→s.heap.get? b=some o→H b=none→h'.get? b=some o)
  (slot:∀b o,b≠X.env.locals→b∈X.fs→b∉ch→s.heap.get? b=some o→H b=none→∃sl,h'.get? b=some {o with slots:=sl}) (free:∀b o,b∉ch→s.heap.get? b=some o→H b=none→H' b=none)
  (there:∀b o,b∉ch→s.heap.get? b=some o→∃o',h'.get? b=some o')
  (tups:∀b xs,H b=some (.tup xs)→H' b=some (.tup xs)) (frzs:∀b o u,H b=some (.frz o u)→H' b=some (.frz o u)) (tbls:∀b ps,H b=some (.tbl ps)→∃more,H' b=some (.tbl (ps++more)))
  (ns:∀m,s.heap.Ns X.env.locals m→h'.Ns X.env.locals m) (hok:HOk X.prog X.w H' h') (hg:AllBare g'):
  Inv X pins σ H' {s with heap:=h',gens:=g',drawn:=d',toks:=t'}:=by
 have neL:∀b o,X.s₀.heap.get? b=some o→b≠X.env.locals:=fun b o e=>Nat.ne_of_lt (Nat.lt_of_lt_of_le (Heap.lt_size e) I.ok.above)
 have neC:∀b o,X.s₀.heap.get? b=some o→b∉X.ex→b∉ch:=fun b o e hx hb=>by
  rcases(hch b hb).1 with z|z
  ·exact hx z
  ·exact absurd (Nat.lt_of_lt_of_le (Heap.lt_size e) z) (Nat.lt_irrefl _)
 have cellK:∀x c,X.env.cells.lookup x=some c→∀v,s.heap.IsCell c v→h'.IsCell c v:=fun x c e v ⟨o,ho,hd⟩=>by
  have nch:c∉ch:=fun z=>(hch c z).2.2.1 x c e rfl
  by_cases hc:c∈X.fs
  ·obtain⟨sl,q⟩:=slot c o (I.cne x c e) hc nch ho (I.freeC x c e)
   exact⟨_,q,hd⟩
  ·exact⟨o,keep c o (I.cne x c e) hc nch ho (I.freeC x c e),hd⟩
 refine⟨I.ok,I.os,hg,⟨fun b o e n hb hx=>?_,fun b o e n hb hx=>?_,fun b o e n hx=>?_,fun b o e hx=>?_,fun b xs e=>tups b xs (I.base.tups b xs e),fun b o xs e=>frzs b o xs (I.base.frzs b o xs e),fun b ps e=>?_⟩,?_,fun x c e=>?_,?_,fun x c e=>?_,fun p hp=>?_,hok,I.len⟩
 ·exact keep b o (neL b o e) hb (neC b o e hx) (I.base.keep b o e n hb hx) (I.base.free b o e n hx)
 ·obtain⟨sl,e1⟩:=I.base.slot b o e n hb hx
  obtain⟨sl',e2⟩:=slot b _ (neL b o e) hb (neC b o e hx) e1 (I.base.free b o e n hx)
  exact⟨sl',e2⟩
 ·obtain⟨o',e1⟩:=I.base.there b o e hx
  exact free b o' (neC b o e hx) e1 (I.base.free b o e n hx)
 ·obtain⟨o',e1⟩:=I.base.there b o e hx
  exact there b o' (neC b o e hx) e1
 ·obtain⟨m1,e1⟩:=I.base.tbls b ps e
  obtain⟨m2,e2⟩:=tbls b _ e1
  exact⟨m1++m2,by rw[e2,Array.append_assoc]⟩
 ·obtain⟨m,hn,hl⟩:=I.loc
  refine⟨m,ns m hn,fun i x v e1 e2 e3=>?_⟩
  obtain⟨u,r,l⟩:=hl i x v e1 e2 e3
  refine⟨u,r,?_⟩
  rcases l with l|⟨k,c,e,z⟩
  ·exact .inl l
  ·exact .inr ⟨k,c,e,cellK x c e _ z⟩
 ·obtain⟨v,z⟩:=I.cell x c e
  exact⟨v,cellK x c e v z⟩
 ·obtain⟨m,⟨o,_,_,ho,_⟩,_⟩:=I.loc
  exact free _ o (fun z=>(hch _ z).2.1 rfl) ho I.free
 ·obtain⟨v,o,ho,hd⟩:=I.cell x c e
  exact free c o (fun z=>(hch c z).2.2.1 x c e rfl) ho (I.freeC x c e)
 ·obtain⟨e,n,ne,nf,d⟩:=I.pin p hp
  have nch:p.1∉ch:=fun z=>(hch p.1 z).2.2.2 p hp rfl
  exact⟨keep p.1 p.2 ne nf nch e n,free p.1 p.2 nch e n,ne,nf,d⟩
theorem Inv.un{t':Nat}(I:Inv X pins σ H s)(u:Un X.fs [] H H' s.heap h')(hok:HOk X.prog X.w H' h'):Inv X pins σ H' {s with heap:=h',toks:=t'}:=by
 obtain⟨m,⟨o,es,ep,ho,r⟩,_⟩:=id I.loc
 obtain⟨sl,hL⟩:=u.any ho I.free (by simp)
 exact I.step (g':=s.gens) (d':=s.drawn) (ch:=[]) (fun _ z=>nomatch z) (fun b o _ hb _ e n=>u.keep b o e n hb (by simp)) (fun b o _ hb _ e n=>u.slot b o e n hb (by simp)) (fun b o _ e n=>u.free b o e n (by simp)) (fun b o _ e=>u.there b o e (by simp)) u.tups u.frzs u.tbls (fun m' hm=>by
  obtain⟨o',es',ep',ho',r'⟩:=hm
  rw[ho]at ho';cases ho'
  exact⟨_,es',ep',hL,r'⟩) hok I.bare
theorem Inv.call{g':Array GenState}{t':Nat}{d':Drawn}{ch:List Addr}(I:Inv X pins σ H s)(u:Un (frs X.stack) ch H H' s.heap h')(hok:HOk X.prog X.w H' h')(hg:AllBare g')
  (hch:∀b∈ch,(b∈X.ex∨X.s₀.heap.objs.size≤b)∧b≠X.env.locals∧(∀x c,X.env.cells.lookup x=some c→c≠b)∧∀p∈X.pn++pins,p.1≠b):
  Inv X pins σ H' {s with heap:=h',gens:=g',drawn:=d',toks:=t'}:=by
 obtain⟨m,⟨o,es,ep,ho,r⟩,_⟩:=id I.loc
 obtain⟨sl,hL⟩:=u.any ho I.free fun z=>(hch _ z).2.1 rfl
 exact I.step (ch:=ch) hch (fun b o hL hb hc e n=>u.keep b o e n (fun z=>(List.mem_cons.mp (I.stkSub b z)).elim hL hb) hc) (fun b o _ _ hc e n=>u.any e n hc) (fun b o hc e n=>u.free b o e n hc) (fun b o hc e=>u.there b o e hc) u.tups u.frzs u.tbls (fun m' hm=>by
  obtain⟨o',es',ep',ho',r'⟩:=hm
  rw[ho]at ho';cases ho'
  exact⟨_,es',ep',hL,r'⟩) hok hg
theorem Inv.turned{t':Nat}{it:Addr}(I:Inv X pins σ H s)(k:∀b o,b≠it→s.heap.get? b=some o→h'.get? b=some o)(hn:H it=none)(hL:it≠X.env.locals)
  (h1:it∈X.ex∨X.s₀.heap.objs.size≤it) (h2:∀x c,X.env.cells.lookup x=some c→c≠it) (h3:∀p∈X.pn++pins,p.1≠it):Inv X pins σ H {s with heap:=h',toks:=t'}:=by
 have nit:∀b u,H b=some u→b≠it:=fun b u e z=>by rw[z,hn]at e;cases e
 refine I.step (g':=s.gens) (d':=s.drawn) (ch:=[it]) (fun b hb=>?_) (fun b o _ _ hc e _=>k b o (fun z=>hc (by simp[z])) e) (fun b o _ _ hc e _=>⟨o.slots,k b o (fun z=>hc (by simp[z])) e⟩) (fun _ _ _ _ n=>n)
  (fun b o hc e=>⟨o,k b o (fun z=>hc (by simp[z])) e⟩) (fun _ _ e=>e) (fun _ _ _ e=>e) (fun b ps e=>⟨#[],by rw[e];simp⟩) (fun m hm=>?_) (fun b u e=>?_) I.bare
 ·have e:b=it:=by simpa using hb
  subst e
  exact⟨h1,hL,h2,h3⟩
 ·obtain⟨o,es,ep,ho,r⟩:=hm
  exact⟨o,es,ep,k _ o (Ne.symm hL) ho,r⟩
 ·refine(I.hok b u e).stay (fun c v hc q=>k c v ?_ q) (fun _ q=>q) fun _ _ q=>q
  rcases hc with z|z
  ·rw[z];exact nit b u e
  ·exact nit c _ z
theorem Inv.tok(I:Inv X pins σ H s)(t:Nat):Inv X pins σ H {s with toks:=t}:=I.un (h':=s.heap) (t':=t) Un.refl I.hok
theorem Inv.kept{t':Nat}(I:Inv X pins σ H s)(k:∀b u,s.heap.get? b=some u→h'.get? b=some u):Inv X pins σ H {s with heap:=h',toks:=t'}:=I.un (Un.kept k) (I.hok.kept k)
theorem Inv.laid{a:Addr}{o:HO}{t':Nat}(I:Inv X pins σ H s)(k:∀b u,s.heap.get? b=some u→h'.get? b=some u)(hp:s.heap.objs.size≤a)(new:Zaq X.prog X.w (upd H a o) h' a o):
  Inv X pins σ (upd H a o) {s with heap:=h',toks:=t'}:=I.un (Un.laid k hp (I.hok.fresh hp)) (I.hok.laid k hp new)
theorem Inv.write{x e:Addr}{o:HO}{t':Nat}(I:Inv X pins σ H s)(mu:Mut (H x))(he:e=x∨H e=some (.own x))(k:∀b u,b≠e→s.heap.get? b=some u→h'.get? b=some u)(heo:∃u,h'.get? e=some u)
  (new:Zaq X.prog X.w (upd H x o) h' x o):Inv X pins σ (upd H x o) {s with heap:=h',toks:=t'}:=I.un (Un.write mu he k heo) (I.hok.write mu he k heo new)
theorem Inv.pins_of{pins':List (Addr×Obj)}(I:Inv X pins σ H s)(h:∀p∈pins',s.heap.get? p.1=some p.2∧H p.1=none∧p.1≠X.env.locals∧p.1∉X.fs∧∀v,p.2.data≠.cell v):Inv X pins' σ H s:=
 ⟨I.ok,I.os,I.bare,I.base,I.loc,I.cell,I.free,I.freeC,fun p hp=>(List.mem_append.mp hp).elim (fun z=>I.pin p (List.mem_append_left _ z)) (h p),I.hok,I.len⟩
theorem Zjm{N:List Str}(hN:N.Nodup){i j:Nat}{x:Str}(a:N[i]? =some x)(b:N[j]? =some x):i=j:=by
 obtain⟨h1,e1⟩:=List.getElem?_eq_some_iff.mp a
 obtain⟨h2,e2⟩:=List.getElem?_eq_some_iff.mp b
 exact(List.getElem_inj hN).mp (e1.trans e2.symm)
theorem Zl4{M:Model}{A:Around}{E:Value→Shared→Prop}{i:Nat}{x:Str}{v:V}{u:Value}{Q:Unit→Shared→Prop}(I:Inv X pins σ H s)(hN:X.N.Nodup)(hi:X.N[i]? =some x)(hx:Loc X.env.scope x)(r:RelV v u)
  (h:∀s',Inv X pins (σ.set i (some v)) H s'→(∃a,Heap.SameBut a s.heap s'.heap∧(a=X.env.locals∨X.env.cells.lookup x=some a))→Q () s') (hf:X.fn x=true∨X.env.scope.names.lookup x=some .local:=by first|exact .inl rfl|exact .inr rfl|assumption):wpAny M A (storeName X.env x u) Q E s:=by
 obtain⟨m,hn,hl⟩:=id I.loc
 have hcls:(X.env.scope.kind== .class|| (X.env.scope.kind== .module&&X.env.locals !=X.env.globals))=false:=by rw[I.ok.kind];rfl
 have hiσ:i<σ.length:=by rw[I.len];exact(List.getElem?_eq_some_iff.mp hi).1
 have cne:=I.cne
 have tracked:∀{a:Addr} {h':Heap},(∃o,s.heap.get? a=some o∧H a=none)→Heap.SameBut a s.heap h'→HOk X.prog X.w H h':=fun{a h'} ha hs b ob e=>by
  obtain⟨_,_,hfree⟩:=ha
  refine(I.hok b ob e).stay (fun c w' hc q=>(hs.2 c ?_).trans q) (fun _ q=>q) fun _ _ q=>q
  rintro rfl
  rcases hc with rfl|hc
  ·rw[hfree]at e;cases e
  ·rw[hfree]at hc;cases hc
 rcases hx with hk|hk
 ·refine wpAny_storeName_local hk hn (fun h' hn' hs=>?_) hcls
  obtain⟨oL,_,_,hoL,_⟩:=id hn
  refine h _ ⟨I.ok,I.os,I.bare,⟨fun b o e n hb hx=>?_,fun b o e n hb hx=>?_,I.base.free,fun b o e hx=>?_,I.base.tups,I.base.frzs,I.base.tbls⟩,⟨_,hn',fun j y v' e1 e2 e3=>?_⟩,fun y c e=>?_,I.free,I.freeC,fun p hp=>?_,tracked ⟨oL,hoL,I.free⟩ hs,by simpa using I.len⟩ ⟨_,hs,.inl rfl⟩
  ·exact(hs.2 b (Nat.ne_of_lt (Nat.lt_of_lt_of_le (Heap.lt_size e) I.ok.above))).trans (I.base.keep b o e n hb hx)
  ·obtain⟨sl,e1⟩:=I.base.slot b o e n hb hx
   exact⟨sl,(hs.2 b (Nat.ne_of_lt (Nat.lt_of_lt_of_le (Heap.lt_size e) I.ok.above))).trans e1⟩
  ·obtain⟨o',e1⟩:=I.base.there b o e hx
   exact⟨o',(hs.2 b (Nat.ne_of_lt (Nat.lt_of_lt_of_le (Heap.lt_size e) I.ok.above))).trans e1⟩
  ·by_cases hj:j=i
   ·subst hj
    rw[hi]at e1;cases e1
    rw[List.getElem?_set_self hiσ]at e2
    cases e2
    exact⟨u,r,.inl ⟨hk,by simp⟩⟩
   ·rw[List.getElem?_set_ne (Ne.symm hj)]at e2
    obtain⟨u',r',q⟩:=hl j y v' e1 e2 e3
    refine⟨u',r',?_⟩
    rcases q with⟨k,e⟩|⟨k,c,e,z⟩
    ·refine .inl ⟨k,?_⟩
     have:y≠x:=fun e=>hj (Zjm hN e1 (e▸hi))
     simp[this,e]
    ·exact .inr ⟨k,c,e,z.sameBut hs (cne y c e)⟩
  ·obtain⟨w',z⟩:=I.cell y c e
   exact⟨w',z.sameBut hs (cne y c e)⟩
  ·obtain⟨e,n,ne,nf,d⟩:=I.pin p hp
   exact⟨(hs.2 p.1 ne).trans e,n,ne,nf,d⟩
 ·have hfn:X.fn x=true:=by
   rcases hf with z|z
   ·exact z
   ·rw[z]at hk;cases hk
  obtain⟨c,hc⟩:=I.ok.has x (.inl hk)
  obtain⟨w',z⟩:=I.cell x c hc
  refine wpAny_storeName_cell I.ok.kind hk hc z (fun h' hc' hs=>?_)
  obtain⟨oc,hoc,hocd⟩:=id z
  refine h {s with heap:=h'} ⟨I.ok,I.os,I.bare,⟨fun b o e n hb hx=>?_,fun b o e n hb hx=>?_,I.base.free,fun b o e hx=>?_,I.base.tups,I.base.frzs,I.base.tbls⟩,⟨m,hn.sameBut hs (Ne.symm (cne x c hc)),fun j y v' e1 e2 e3=>?_⟩,fun y c' e=>?_,I.free,I.freeC,fun p hp=>?_,tracked ⟨oc,hoc,I.freeC x c hc⟩ hs,by simpa using I.len⟩ ⟨c,hs,.inr hc⟩
  ·exact(hs.2 b (Nat.ne_of_lt (Nat.lt_of_lt_of_le (Heap.lt_size e) (I.ok.cab x c hfn hc)))).trans (I.base.keep b o e n hb hx)
  ·obtain⟨sl,e1⟩:=I.base.slot b o e n hb hx
   exact⟨sl,(hs.2 b (Nat.ne_of_lt (Nat.lt_of_lt_of_le (Heap.lt_size e) (I.ok.cab x c hfn hc)))).trans e1⟩
  ·obtain⟨o',e1⟩:=I.base.there b o e hx
   exact⟨o',(hs.2 b (Nat.ne_of_lt (Nat.lt_of_lt_of_le (Heap.lt_size e) (I.ok.cab x c hfn hc)))).trans e1⟩
  ·by_cases hj:j=i
   ·subst hj
    rw[hi]at e1;cases e1
    rw[List.getElem?_set_self hiσ]at e2
    cases e2
    exact⟨u,r,.inr ⟨.inl hk,c,hc,hc'⟩⟩
   ·rw[List.getElem?_set_ne (Ne.symm hj)]at e2
    obtain⟨u',r',q⟩:=hl j y v' e1 e2 e3
    refine⟨u',r',?_⟩
    rcases q with q|⟨k,c',e,z'⟩
    ·exact .inl q
    ·refine .inr ⟨k,c',e,z'.sameBut hs ?_⟩
     rintro rfl
     exact hj (Zjm hN e1 (I.ok.inj _ _ _ e hc▸hi))
  ·by_cases hcc:c'=c
   ·subst hcc;exact⟨_,hc'⟩
   ·obtain⟨w2,z2⟩:=I.cell y c' e
    exact⟨w2,z2.sameBut hs hcc⟩
  ·obtain⟨e,n,ne,nf,d⟩:=I.pin p hp
   refine⟨(hs.2 p.1 ?_).trans e,n,ne,nf,d⟩
   intro q
   rw[q,hoc]at e
   have q':oc=p.2:=Option.some.inj e
   exact d w' (by rw[←q'];exact hocd)
theorem Zjn{M:Model}{A:Around}{E:Value→Shared→Prop}{i:Nat}{x:Str}{v:V}{u:Value}{Q:Unit→Shared→Prop}(I:Inv X pins σ H s)(hN:X.N.Nodup)(hi:X.N[i]? =some x)(hx:Loc X.env.scope x)(r:RelV v u)
  (h:∀s',Inv X pins (σ.set i (some v)) H s'→Q () s') (hf:X.fn x=true∨X.env.scope.names.lookup x=some .local:=by first|exact .inl rfl|exact .inr rfl|assumption):wpAny M A (storeName X.env x u) Q E s:=
 Zl4 I hN hi hx r (fun s' I' _=>h s' I') hf
theorem Inv.call'{s':Shared}{ch:List Addr}(I:Inv X pins σ H s)(ho:s'.os=s.os)(u:Un (frs X.stack) ch H H' s.heap s'.heap)(hok:HOk X.prog X.w H' s'.heap)(hg:AllBare s'.gens)
  (hch:∀b∈ch,(b∈X.ex∨X.s₀.heap.objs.size≤b)∧b≠X.env.locals∧(∀x c,X.env.cells.lookup x=some c→c≠b)∧∀p∈X.pn++pins,p.1≠b):Inv X pins σ H' s':=by
 obtain⟨h',g',d',t',o'⟩:=s'
 have e:o'=s.os:=ho
 subst e
 exact I.call (g':=g') (t':=t') (d':=d') u hok hg hch
end
noncomputable abbrev XK:=Value→Option Addr→Hp→Prop
noncomputable abbrev St:=List (Option V)
noncomputable abbrev VK:=V→Hp→Prop
noncomputable abbrev TE:=St→Hp→VK→Prop
noncomputable abbrev TT:=St→Hp→(Bool→Hp→Prop)→Prop
noncomputable abbrev TA:=St→Hp→(List V→Hp→Prop)→Prop
set_option genInjectivity false in
structure Ends where
 nx:St→Hp→Prop
 rt:VK
 bk:St→Hp→Prop:=fun _ _=>False
 ct:St→Hp→Prop:=fun _ _=>False
noncomputable abbrev TS:=Ends→St→Hp→Prop
noncomputable def EP(X:Cx)(pins:List (Addr×Obj))(σ:St)(Q:VK)(u:Value)(s':Shared):Prop:=∃v H',Inv X pins σ H' s'∧RelV v u∧Q v H'
noncomputable def TP(X:Cx)(pins:List (Addr×Obj))(σ:St)(Q:Bool→Hp→Prop)(b:Bool)(s':Shared):Prop:=∃H',Inv X pins σ H' s'∧Q b H'
noncomputable def AP(X:Cx)(pins:List (Addr×Obj))(σ:St)(Q:List V→Hp→Prop)(us:List Value)(s':Shared):Prop:=∃vs H',Inv X pins σ H' s'∧Vals vs us∧Q vs H'
noncomputable def SP(X:Cx)(pins:List (Addr×Obj))(D:Ends)(f:Flow)(s':Shared):Prop:=
 match f with
 | .next=>∃σ' H',Inv X pins σ' H' s'∧D.nx σ' H'
 | .brk=>∃σ' H',Inv X pins σ' H' s'∧D.bk σ' H'
 | .cont=>∃σ' H',Inv X pins σ' H' s'∧D.ct σ' H'
 | .ret u=>∃v σ' H',Inv X pins σ' H' s'∧RelV v u∧D.rt v H'
noncomputable def PE(X:Cx)(e:Expr)(t:TE):Prop:=
 ∀(pins:List (Addr×Obj)) (s:Shared) (σ:St) (H:Hp) (Q:VK),Inv X pins σ H s→t σ H Q→wpAny (model X.prog X.w) X.A (eval e X.env) (EP X pins σ Q) X.xe s
noncomputable def PT(X:Cx)(e:Expr)(t:TT):Prop:=
 ∀(pins:List (Addr×Obj)) (s:Shared) (σ:St) (H:Hp) (Q:Bool→Hp→Prop),Inv X pins σ H s→t σ H Q→wpAny (model X.prog X.w) X.A (isTrue e X.env (eval e X.env)) (TP X pins σ Q) X.xe s
noncomputable def PW(X:Cx)(e:Expr)(t:TT):Prop:=
 ∀(whole:Sem Value) (pins:List (Addr×Obj)) (s:Shared) (σ:St) (H:Hp) (Q:Bool→Hp→Prop),Inv X pins σ H s→t σ H Q→wpAny (model X.prog X.w) X.A (isTrue e X.env whole) (TP X pins σ Q) X.xe s
theorem PW.pt{X:Cx}{e:Expr}{t:TT}(h:PW X e t):PT X e t:=h _
noncomputable def PA(X:Cx)(es:List Expr)(t:TA):Prop:=
 ∀(pos:Pos) (pins:List (Addr×Obj)) (s:Shared) (σ:St) (H:Hp) (Q:List V→Hp→Prop),Inv X pins σ H s→t σ H Q→wpAny (model X.prog X.w) X.A (spliced (backTo pos (starEach es X.env))) (AP X pins σ Q) X.xe s
noncomputable def PS(X:Cx)(st:Stmt)(t:TS):Prop:=
 ∀(pins:List (Addr×Obj)) (s:Shared) (σ:St) (H:Hp) (D:Ends),Inv X pins σ H s→t D σ H→wpAny (model X.prog X.w) X.A (exec st X.env) (SP X pins D) X.xe s
noncomputable def PSs(X:Cx)(st:List Stmt)(t:TS):Prop:=
 ∀(pins:List (Addr×Obj)) (s:Shared) (σ:St) (H:Hp) (D:Ends),Inv X pins σ H s→t D σ H→wpAny (model X.prog X.w) X.A (execs st X.env) (SP X pins D) X.xe s
theorem thn{α:Type}{t:Sem α}{Q Q':α→Shared→Prop}{M:Model}{A:Around}{E:Value→Shared→Prop}{s:Shared}(h:wpAny M A t Q E s)(hQ:∀a s,Q a s→Q' a s):wpAny M A t Q' E s:=wpAny_mono h hQ fun _ _ x=>x
end L2
namespace L2
open PySem PySem.Spec PyProof.Rows
section
variable{X:Cx}
noncomputable def tVar(i:Nat):TE:=fun σ H Q=>∃v,σ[i]? =some (some v)∧Q v H
noncomputable def tC(v:V):TE:=fun _ H Q=>Q v H
theorem Ze5{i:Nat}{x:Str}{pos:Pos}(hN:X.N[i]? =some x)(hv:Vis X.env.scope x)(hd:(x==("__debug__":Str))=false:=by decide)(hcd:(x==("__classdict__":Str))=false:=by decide):PE X (.Name x pos) (tVar i):=by
 intro pins s σ H Q I h
 obtain⟨v,e,h⟩:=h
 obtain⟨m,hn,hl⟩:=I.loc
 obtain⟨u,r,l⟩:=hl i x v hN e hv
 have fin:EP X pins σ Q u s:=⟨v,H,I,r,h⟩
 rcases l with⟨hk,hm⟩|⟨hk,c,hc,hcell⟩
 ·exact wpAny_Name (wpAny_loadName_local I.ok.kind hk hn hm fin) hd
 ·rcases hk with hk|hk
  ·exact wpAny_Name (wpAny_loadName_cell I.ok.kind hk hc hcell fin) hd
  ·exact wpAny_Name (wpAny_loadName_free I.ok.kind hk hc hcell fin hcd) hd
theorem Zri{i j pos}:PE X (.Constant (.int i) j pos) (tC (.int i)):=fun _ _ _ H _ I h=>wpAny_Constant_int ⟨.int i,H,I.tok _,⟨_,rfl⟩,h⟩
theorem Zzc{b j pos}:PE X (.Constant (.bool b) j pos) (tC (.bl b)):=fun _ _ _ H _ I h=>Constant_bool ⟨.bl b,H,I,rfl,h⟩
theorem Zvb{j pos}:PE X (.Constant .none j pos) (tC .non):=fun _ _ _ H _ I h=>Constant_none ⟨.non,H,I,rfl,h⟩
theorem Zjo{x j pos}:PE X (.Constant (.str x) j pos) (tC (.str x)):=fun _ _ _ H _ I h=>Calls.Constant_str ⟨.str x,H,I.tok _,⟨_,rfl⟩,h⟩
noncomputable def Gl(X:Cx)(x:Str):Prop:=X.env.kindOf x=some .globalImplicit
theorem Zl5{E:Value→Shared→Prop}{pins:List (Addr×Obj)}{s:Shared}{σ:St}{H:Hp}{x:Str}{u:Value}{pos:Pos}{Q:Value→Shared→Prop}(I:Inv X pins σ H s)(hg:Gl X x)(hm:X.mg x=some u)(h:Q u s)
  (hd:(x==("__debug__":Str))=false:=by decide):wpAny (model X.prog X.w) X.A (eval (.Name x pos) X.env) Q E s:=
 Calls.Name_function_global I.ok.kind hg (Calls.loadGlobal_global (by rw[I.ok.glob];exact I.mod.glob.keeps I.bk) hm h) hd
theorem Zdw{E:Value→Shared→Prop}{pins:List (Addr×Obj)}{s:Shared}{σ:St}{H:Hp}{x:Str}{u:Value}{pos:Pos}{Q:Value→Shared→Prop}(I:Inv X pins σ H s)(hg:Gl X x)(hm:X.mg x=none)(hv:bootBuiltins x=some u)(h:Q u s)
  (hn:x≠"__name__":=by decide) (hd:(x==("__debug__":Str))=false:=by decide):wpAny (model X.prog X.w) X.A (eval (.Name x pos) X.env) Q E s:=by
 obtain⟨mb,h1,h2⟩:=I.mod.blt
 exact Calls.Name_function_global I.ok.kind hg (Calls.loadGlobal_builtin (by rw[I.ok.glob];exact I.mod.glob.keeps I.bk) hm (by rw[I.ok.blt];exact h1.keeps I.bk) ((h2 x hn).trans hv) h) hd
theorem Zl6{x:Str}{v:V}{u:Value}{pos:Pos}(hg:Gl X x)(hm:X.mg x=some u)(r:RelV v u)(hd:(x==("__debug__":Str))=false:=by decide):PE X (.Name x pos) (tC v):=
 fun _ _ _ H _ I h=>Zl5 I hg hm ⟨v,H,I,r,h⟩ hd
theorem Zso{x:Str}{v:V}{u:Value}{pos:Pos}(hg:Gl X x)(hm:X.mg x=none)(hv:bootBuiltins x=some u)(r:RelV v u)(hn:x≠"__name__":=by decide)(hd:(x==("__debug__":Str))=false:=by decide):PE X (.Name x pos) (tC v):=
 fun _ _ _ H _ I h=>Zdw I hg hm hv ⟨v,H,I,r,h⟩ hn hd
noncomputable def t2I(ta tb:TE)(k:Int→Int→Hp→Prop):St→Hp→Prop:=fun σ H=>ta σ H fun x H1=>tb σ H1 fun y H2=>∃i j,x= .int i∧y= .int j∧k i j H2
noncomputable def tAdd(ta tb:TE):TE:=fun σ H Q=>t2I ta tb (fun i j H2=>Q (.int (i+j)) H2) σ H
noncomputable def tSub(ta tb:TE):TE:=fun σ H Q=>t2I ta tb (fun i j H2=>Q (.int (i- j)) H2) σ H
noncomputable def tMul(ta tb:TE):TE:=fun σ H Q=>t2I ta tb (fun i j H2=>(-(2^64)<i∧i<2^64)∧Q (.int (i*j)) H2) σ H
variable{a b:Expr}{ta tb:TE}{pos:Pos}
noncomputable def PC(X:Cx)(op:CmpOp)(a b:Expr)(t:TE):Prop:=
 ∀(pins:List (Addr×Obj)) (s:Shared) (σ:St) (H:Hp) (Q:VK),Inv X pins σ H s→t σ H Q→
  wpAny (model X.prog X.w) X.A (eval a X.env) (fun v s₁=>wpAny (model X.prog X.w) X.A (eval b X.env) (fun u s₂=>wpAny (model X.prog X.w) X.A (compareOp op v u) (EP X pins σ Q) X.xe s₂) X.xe s₁) X.xe s
noncomputable def tCmp(p:Int→Int→Bool)(ta tb:TE):TE:=fun σ H Q=>t2I ta tb (fun i j H2=>Q (.bl (p i j)) H2) σ H
noncomputable abbrev tLt:TE→TE→TE:=tCmp fun i j=>decide (i<j)
noncomputable abbrev tLe:TE→TE→TE:=tCmp fun i j=>decide (i≤j)
noncomputable abbrev tGt:TE→TE→TE:=tCmp fun i j=>decide (j<i)
noncomputable abbrev tGe:TE→TE→TE:=tCmp fun i j=>decide (j≤i)
noncomputable abbrev tEqI:TE→TE→TE:=tCmp fun i j=>decide (i=j)
noncomputable abbrev tNeI:TE→TE→TE:=tCmp fun i j=>!decide (i=j)
noncomputable def tIsN(ta:TE):TE:=fun σ H Q=>ta σ H fun x H1=>Q (.bl (decide (x= .non))) H1
noncomputable def Z2w(ta:TE):TE:=fun σ H Q=>ta σ H fun x H1=>Q (.bl (!decide (x= .non))) H1
noncomputable def tB(t:TE):TT:=fun σ H Q=>t σ H fun x H1=>∃c,x= .bl c∧Q c H1
theorem Zvc{e:Expr}{t:TE}(h:PE X e t)(he:∀whole,isTrue e X.env whole=(do let v←whole;standAt e.pos;holding [v] (truthy v)):=by intro _;rfl):PT X e (tB t):=by
 intro pins s σ H Q I hw
 refine isTrue_plain (thn (h pins s σ H _ I hw) fun v s1 ⟨x,H1,I1,r1,q1⟩=>?_) (he _)
 obtain⟨d,rfl,q⟩:=q1
 cases r1
 exact wpAny_truthy_bool ⟨H1,I1,q⟩
variable{tA tB':TT}{rest:List Expr}
noncomputable def tAnd(t u:TT):TT:=fun σ H Q=>t σ H fun c H1=>if c=true then u σ H1 Q else Q false H1
noncomputable def tOr(t u:TT):TT:=fun σ H Q=>t σ H fun c H1=>if c=true then Q true H1 else u σ H1 Q
noncomputable def tNot(t:TT):TT:=fun σ H Q=>t σ H fun c H1=>Q (!c) H1
theorem Zvd(ha:PT X a tA):PW X (.BoolOp .Or [a] pos) tA:=by
 intro wh pins s σ H Q I h
 refine isTrue_or (thn (ha pins s σ H Q I h) fun c s1 e=>?_)
 cases c with
 |false=>exact isTrue_or_nil e
 |true=>exact e
theorem Zzd(ha:PT X a tA)(hb:PW X (.BoolOp .Or (b::rest) pos) tB'):PW X (.BoolOp .Or (a::b::rest) pos) (tOr tA tB'):=by
 intro wh pins s σ H Q I h
 refine isTrue_or (thn (ha pins s σ H _ I h) fun c s1 zq9=>?_)
 obtain⟨H1,I1,q1⟩:=zq9
 cases c with
 |true=>exact⟨H1,I1,q1⟩
 |false=>exact hb wh pins s1 σ H1 Q I1 q1
theorem Zve(ha:PT X a tA):PT X (.UnaryOp .Not a pos) (tNot tA):=by
 intro pins s σ H Q I h
 exact isTrue_not (ha pins s σ H (fun c H1=>Q (!c) H1) I h)
noncomputable def Zvf(ta tb:TE):TE:=fun σ H Q=>ta σ H fun x H1=>∃c,x= .bl c∧if c=true then tb σ H1 Q else Q (.bl false) H1
noncomputable def tOrV(ta tb:TE):TE:=fun σ H Q=>ta σ H fun x H1=>∃c,x= .bl c∧if c=true then Q (.bl true) H1 else tb σ H1 Q
noncomputable def Z2x(ta:TE):TE:=fun σ H Q=>ta σ H fun x H1=>∃c,x= .bl c∧Q (.bl (!c)) H1
theorem Zvg{op} {t:TE} (h:PE X a t):PE X (.BoolOp op [a] pos) t:=fun pins s σ H Q I hw=>BoolOp_one (h pins s σ H Q I hw)
theorem Zvh(ha:PE X a ta)(hb:PE X (.BoolOp .And (b::rest) pos) tb):PE X (.BoolOp .And (a::b::rest) pos) (Zvf ta tb):=by
 intro pins s σ H Q I h
 refine BoolOp_and (thn (ha pins s σ H _ I h) fun v s1 zq9=>?_)
 obtain⟨x,H1,I1,r1,q1⟩:=zq9
 obtain⟨c,rfl,q1⟩:=q1
 cases r1
 refine wpAny_truthy_bool ?_
 cases c with
 |true=>exact hb pins s1 σ H1 Q I1 q1
 |false=>exact⟨.bl false,H1,I1,rfl,q1⟩
noncomputable def tIf(t:TT)(ta tb:TE):TE:=fun σ H Q=>t σ H fun c H1=>if c=true then ta σ H1 Q else tb σ H1 Q
theorem Zpl{c:Expr}(hc:PT X c tA)(ha:PE X a ta)(hb:PE X b tb):PE X (.IfExp c a b pos) (tIf tA ta tb):=by
 intro pins s σ H Q I h
 refine wpAny_IfExp (thn (hc pins s σ H _ I h) fun d s1 zq9=>?_)
 obtain⟨H1,I1,q1⟩:=zq9
 cases d with
 |true=>exact ha pins s1 σ H1 Q I1 q1
 |false=>exact hb pins s1 σ H1 Q I1 q1
end
end L2
namespace L2
open PySem PySem.Spec PyProof.Rows
noncomputable def SqL(K:PySem.W.Frag)(H:Hp)(a:Addr)(xs:List V):Prop:=
 Rd H a (.lst xs)∨
  ∃(o:Obj) (its:Array Value) (n:Nat),K.lookup a=some o∧o.cls= .type "list"∧o.dict=none∧o.data= .seq its n∧its.size≤sizeLine∧Vals xs its.toList
noncomputable def SqT(K:PySem.W.Frag)(H:Hp)(a:Addr)(xs:List V):Prop:=
 Rd H a (.tup xs)∨
  ∃(o:Obj) (its:Array Value) (n:Nat),K.lookup a=some o∧o.cls= .type "tuple"∧o.data= .seq its n∧its.size≤sizeLine∧Vals xs its.toList
noncomputable def absV:Value→Option V
 | .none=>some .non
 | .bool b=>some (.bl b)
 | .int i _=>some (.int i)
 | .str x _=>some (.str x)
 | .bytes b _=>some (.byt b)
 | .float b _=>some (.flt b)
 | .ref a=>some (.ref a)
 | .type n=>some (.ty n)
 |_=>none
theorem RelV.abs{x:V}{u:Value}(r:RelV x u):absV u=some x:=by
 cases x with
 |non=>cases r;rfl
 |bl _=>cases r;rfl
 |int _=>obtain⟨t,rfl⟩:=r;rfl
 |str _=>obtain⟨t,rfl⟩:=r;rfl
 |byt _=>obtain⟨t,rfl⟩:=r;rfl
 |flt _=>obtain⟨t,rfl⟩:=r;rfl
 |ref _=>cases r;rfl
 |ty _=>cases r;rfl
theorem RelV.inj{x y:V}{u:Value}(r:RelV x u)(q:RelV y u):x=y:=Option.some.inj (r.abs.symm.trans q.abs)
theorem Vals.inj{xs:List V}:∀{ys:List V} {us:List Value},Vals xs us→Vals ys us→xs=ys:=by
 induction xs with
 |nil=>intro ys us h g;cases h;cases g;rfl
 |cons x xs ih=>
  intro ys us h g
  cases h with
  |cons r t=>
   cases g with
   |cons r' t'=>rw[r.inj r',ih t t']
section
variable{X:Cx}{pins:List (Addr×Obj)}{σ:St}{H:Hp}{s:Shared}{a:Addr}{xs ys:List V}
theorem Inv.list(I:Inv X pins σ H s)(h:SqL X.K H a xs):∃its:List Value,Vals xs its∧PlainL s.heap a its.toArray∧xs.length≤sizeLine:=by
 rcases h with h|⟨o,its,n,hk,hc,hd,hs,hz,r⟩
 ·obtain⟨z,its,n,r,e⟩:=h.ok I.hok
  exact⟨its,r,⟨_,n,e,rfl,rfl,rfl⟩,z⟩
 ·refine⟨its.toList,r,⟨o,n,I.kIn a o hk,hc,hd,by simpa using hs⟩,?_⟩
  have e:=r.length
  simp only[Array.length_toList]at e
  omega
theorem Inv.tuple(I:Inv X pins σ H s)(h:SqT X.K H a xs):∃its:List Value,Vals xs its∧IsTup s.heap a its.toArray∧xs.length≤sizeLine:=by
 rcases h with h|⟨o,its,n,hk,hc,hs,hz,r⟩
 ·obtain⟨z,its,r,p⟩:=h.ok I.hok
  exact⟨its,r,p,z⟩
 ·refine⟨its.toList,r,⟨o,I.kIn a o hk,hc,n,by simpa using hs⟩,?_⟩
  have e:=r.length
  simp only[Array.length_toList]at e
  omega
theorem Inv.list_inj(I:Inv X pins σ H s)(h:SqL X.K H a xs)(h':SqL X.K H a ys):xs=ys:=by
 obtain⟨its,r,⟨o,n,e,_,_,d⟩,_⟩:=I.list h
 obtain⟨its',r',⟨o',n',e',_,_,d'⟩,_⟩:=I.list h'
 rw[e]at e';cases e'
 rw[d]at d'
 injection d' with d1 _
 have:its=its':=by simpa using congrArg Array.toList d1
 subst this
 exact r.inj r'
theorem Inv.tuple_inj(I:Inv X pins σ H s)(h:SqT X.K H a xs)(h':SqT X.K H a ys):xs=ys:=by
 obtain⟨its,r,⟨o,e,_,n,d⟩,_⟩:=I.tuple h
 obtain⟨its',r',⟨o',e',_,n',d'⟩,_⟩:=I.tuple h'
 rw[e]at e';cases e'
 rw[d]at d'
 injection d' with d1 _
 have:its=its':=by simpa using congrArg Array.toList d1
 subst this
 exact r.inj r'
end
noncomputable abbrev Cx.wish(X:Cx)(E:Value→Shared→Prop):Cx:={X with xe:=E}
noncomputable abbrev Cx.nox(X:Cx):Cx:=X.wish fun _ _=>False
theorem Cx.Ok.wish{X:Cx}(ok:X.Ok)(E:Value→Shared→Prop):(X.wish E).Ok:=
 ⟨ok.mod,ok.kind,ok.glob,ok.blt,ok.above,ok.inj,ok.has,ok.cab,ok.hd,ok.frames,ok.stk,ok.exf,ok.bs,ok.bsz,ok.noex,ok.exfs,ok.funs,ok.frf⟩
theorem Cx.Ok.unwish{X:Cx}{E:Value→Shared→Prop}(ok:(X.wish E).Ok):X.Ok:=
 ⟨ok.mod,ok.kind,ok.glob,ok.blt,ok.above,ok.inj,ok.has,ok.cab,ok.hd,ok.frames,ok.stk,ok.exf,ok.bs,ok.bsz,ok.noex,ok.exfs,ok.funs,ok.frf⟩
section
variable{X:Cx}{pins:List (Addr×Obj)}{σ:St}{H:Hp}{s:Shared}{E:Value→Shared→Prop}
theorem Inv.wish(I:Inv X pins σ H s)(E:Value→Shared→Prop):Inv (X.wish E) pins σ H s:=⟨I.ok.wish E,I.os,I.bare,I.base,I.loc,I.cell,I.free,I.freeC,I.pin,I.hok,I.len⟩
theorem Inv.unwish(I:Inv (X.wish E) pins σ H s):Inv X pins σ H s:=⟨I.ok.unwish,I.os,I.bare,I.base,I.loc,I.cell,I.free,I.freeC,I.pin,I.hok,I.len⟩
theorem SP.unwish{D:Ends}{f:Flow}{s':Shared}(h:SP (X.wish E) pins D f s'):SP X pins D f s':=by
 cases f with
 |next=>obtain⟨σ',H',I,q⟩:=h;exact⟨σ',H',I.unwish,q⟩
 |brk=>obtain⟨σ',H',I,q⟩:=h;exact⟨σ',H',I.unwish,q⟩
 |cont=>obtain⟨σ',H',I,q⟩:=h;exact⟨σ',H',I.unwish,q⟩
 |ret u=>obtain⟨v,σ',H',I,r,q⟩:=h;exact⟨v,σ',H',I.unwish,r,q⟩
theorem PSs.nox{st:List Stmt}{t:TS}(h:PSs X.nox st t):PSs X st t:=fun pins s σ H D I hw=>
 wpAny_mono (h pins s σ H D (I.wish _) hw) (fun _ _ q=>q.unwish) fun _ _ z=>False.elim z
end
section
variable{X:Cx}{st:Stmt}{rest:List Stmt}{t u:TS}{e:Expr}{te:TE}{pos:Pos}
noncomputable def Zid:TS:=fun D σ H=>D.nx σ H
noncomputable def tSeq(t u:TS):TS:=fun D σ H=>t {D with nx:=u D} σ H
theorem Zl7:PSs X [] Zid:=fun _ _ σ H _ I h=>wpAny_execs_nil ⟨σ,H,I,h⟩
theorem Zbl(h1:PS X st t)(h2:PSs X rest u):PSs X (st::rest) (tSeq t u):=by
 intro pins s σ H D I h
 refine wpAny_execs_cons (thn (h1 pins s σ H {D with nx:=u D} I h) fun f s1 q=>?_)
 cases f with
 |next=>
  obtain⟨σ',H',I',q⟩:=q
  exact h2 pins s1 σ' H' D I' q
 |ret v=>exact q
 |brk=>exact q
 |cont=>exact q
theorem Zie(h1:PS X st t):PSs X [st] t:=by
 intro pins s σ H D I h
 refine wpAny_execs_cons (thn (h1 pins s σ H D I h) fun f s1 q=>?_)
 cases f with
 |next=>exact wpAny_execs_nil q
 |ret v=>exact q
 |brk=>exact q
 |cont=>exact q
noncomputable def Z1p:TS:=fun D σ H=>D.bk σ H
noncomputable def Z2y:TS:=fun D σ H=>D.ct σ H
theorem Inv.quiet{pins:List (Addr×Obj)}{σ:St}{H:Hp}{s:Shared}(I:Inv X pins σ H s):interactive X.env=false:=by simp[interactive,I.ok.kind]
noncomputable def Zpm(te:TE):TS:=fun D σ H=>te σ H fun _ H1=>D.nx σ H1
theorem Zif(he:PE X e te)(hs:swapsWith e none pos.line X.env=pure false:=by rfl):PS X (.Expr e pos) (Zpm te):=by
 intro pins s σ H D I h
 exact wpAny_Expr_any (thn (he pins s σ H _ I h) fun v s1 ⟨x,H1,I1,r1,q1⟩=>⟨σ,H1,I1,q1⟩) I.quiet hs
noncomputable def tRet(te:TE):TS:=fun D σ H=>te σ H D.rt
theorem Zrj(he:PE X e te):PS X (.Return (some e) pos) (tRet te):=by
 intro pins s σ H D I h
 exact wpAny_Return_some (thn (he pins s σ H _ I h) fun v s1 ⟨x,H1,I1,r1,q1⟩=>⟨x,σ,H1,I1,r1,q1⟩)
noncomputable def Z2z:TS:=fun D _ H=>D.rt .non H
noncomputable def tIfS(c:TT)(t u:TS):TS:=fun D σ H=>c σ H fun b H1=>if b=true then t D σ H1 else u D σ H1
theorem Zvi{c:Expr}{a b:List Stmt}{tc:TT}(hc:PT X c tc)(ha:PSs X a t)(hb:PSs X b u):PS X (.If c a b pos) (tIfS tc t u):=by
 intro pins s σ H D I h
 refine wpAny_If (thn (hc pins s σ H _ I h) fun d s1 zq9=>?_)
 obtain⟨H1,I1,q1⟩:=zq9
 cases d with
 |true=>exact ha pins s1 σ H1 D I1 q1
 |false=>exact hb pins s1 σ H1 D I1 q1
noncomputable def Zvj:TS:=fun _ _ _=>False
theorem Zpn:PS X st Zvj:=fun _ _ _ _ _ _ h=>h.elim
end
noncomputable abbrev TG:=V→St→Hp→(St→Hp→Prop)→Prop
noncomputable abbrev TGs:=List V→St→Hp→(St→Hp→Prop)→Prop
noncomputable def PG(X:Cx)(target:Expr)(t:TG):Prop:=
 ∀(pins:List (Addr×Obj)) (s:Shared) (σ:St) (H:Hp) (v:V) (u:Value) (Q:St→Hp→Prop),Inv X pins σ H s→RelV v u→t v σ H Q→
  wpAny (model X.prog X.w) X.A (assign target X.env u) (fun _ s'=>∃σ' H',Inv X pins σ' H' s'∧Q σ' H') X.xe s
noncomputable def PGs(X:Cx)(ts:List Expr)(t:TGs):Prop:=
 ∀(pins:List (Addr×Obj)) (s:Shared) (σ:St) (H:Hp) (vs:List V) (us:List Value) (Q:St→Hp→Prop),Inv X pins σ H s→Vals vs us→t vs σ H Q→
  wpAny (model X.prog X.w) X.A (assignInOrder ((assignEach ts X.env).map (·.2)) us) (fun _ s'=>∃σ' H',Inv X pins σ' H' s'∧Q σ' H') X.xe s
noncomputable abbrev TSet:=V→V→V→Hp→(Hp→Prop)→Prop
noncomputable def PSet(X:Cx)(t:TSet):Prop:=
 ∀(pins:List (Addr×Obj)) (s:Shared) (σ:St) (H:Hp) (o i v:V) (ov iv u:Value) (Q:Hp→Prop),Inv X pins σ H s→RelV o ov→RelV i iv→RelV v u→t o i v H Q→
  wpAny (model X.prog X.w) X.A (setItem ov iv u) (fun _ s'=>∃H',Inv X pins σ H' s'∧Q H') X.xe s
noncomputable abbrev TIp:=V→V→Hp→VK→Prop
noncomputable def PIp(X:Cx)(op:Operator)(t:TIp):Prop:=
 ∀(pins:List (Addr×Obj)) (s:Shared) (σ:St) (H:Hp) (x y:V) (v u:Value) (Q:VK),Inv X pins σ H s→RelV x v→RelV y u→t x y H Q→
  wpAny (model X.prog X.w) X.A (inplaceOp op v u) (EP X pins σ Q) X.xe s
section
variable{X:Cx}{pos:Pos}
noncomputable def Zdx(i:Nat):TG:=fun v σ H Q=>Q (σ.set i (some v)) H
theorem Zl8{i:Nat}{x:Str}(hN:X.N.Nodup)(hi:X.N[i]? =some x)(hx:Loc X.env.scope x)(hf:X.fn x=true∨X.env.scope.names.lookup x=some .local:=by first|exact .inl rfl|exact .inr rfl|assumption):PG X (.Name x pos) (Zdx i):=by
 intro pins s σ H v u Q I r h
 exact wpAny_assign_Name (Zjn I hN hi hx r (fun s' I'=>⟨_,H,I',h⟩) hf)
noncomputable def gNil:TGs:=fun vs σ H Q=>vs=[]∧Q σ H
noncomputable def Zvk(t:TG)(u:TGs):TGs:=fun vs σ H Q=>∃v r,vs=v::r∧t v σ H fun σ' H'=>u r σ' H' Q
theorem Zsp:PGs X [] gNil:=by
 intro pins s σ H vs us Q I r h
 obtain⟨e,h⟩:=h
 subst e
 cases r
 exact assignInOrder_nil ⟨σ,H,I,h⟩
theorem Zpo{e:Expr}{es:List Expr}{t:TG}{u:TGs}(h1:PG X e t)(h2:PGs X es u)
  (hs:(assignEach (e::es) X.env).map (·.2)=assign e X.env::(assignEach es X.env).map (·.2):=by rfl):PGs X (e::es) (Zvk t u):=by
 intro pins s σ H vs us Q I r h
 obtain⟨v,vr,e1,h⟩:=h
 subst e1
 cases r with
 |cons r rr=>
  rw[hs]
  refine assignInOrder_cons (thn (h1 pins s σ H _ _ _ I r h) fun _ s1 zq9=>?_)
  obtain⟨σ1,H1,I1,q1⟩:=zq9
  exact h2 pins s1 σ1 H1 _ _ Q I1 rr q1
noncomputable def gTup(K:PySem.W.Frag)(n:Nat)(t:TGs):TG:=fun v σ H Q=>∃a xs,v= .ref a∧SqT K H a xs∧xs.length=n∧t xs σ H Q
theorem Zvl{es:List Expr}{k:Nat}{t:TGs}{n:Nat}(hc:X.calm=true)(h:PGs X es t)
  (hn:(assignEach es X.env).length=n:=by rfl) (hst:(assignEach es X.env).findIdx? (·.1)=none:=by rfl):PG X (.Tuple es k pos) (gTup X.K n t):=by
 intro pins s σ H v u Q I r hw
 obtain⟨a,xs,e1,hq,hl,hw⟩:=hw
 subst e1
 cases r
 obtain⟨its,rv,ht,hz⟩:=I.tuple hq
 refine assign_Tuple_tuple (I.ok.hd hc) ht (by simp[hn,←hl,rv.length]) hst fun h' hx=>?_
 have I1:Inv X pins σ H {s with heap:=h'}:=I.kept (t':=s.toks) fun b o e=>hx b o (Nat.ne_of_lt (Heap.lt_size e)) e
 exact h pins _ σ H xs _ Q I1 (by simpa using rv) hw
noncomputable def gSub(to ti:TE)(t:TSet):TG:=fun v σ H Q=>to σ H fun o H1=>ti σ H1 fun i H2=>t o i v H2 fun H3=>Q σ H3
noncomputable def tAsg(te:TE)(g:TG):TS:=fun D σ H=>te σ H fun x H1=>g x σ H1 D.nx
theorem Zrk{i:Nat}{x:Str}{e:Expr}{te:TE}{pos':Pos}(hN:X.N.Nodup)(hi:X.N[i]? =some x)(hx:Loc X.env.scope x)(he:PE X e te)(hs:swapsWith e (some (.Name x pos')) pos.line X.env=pure false:=by rfl)(hf:X.fn x=true∨X.env.scope.names.lookup x=some .local:=by first|exact .inl rfl|exact .inr rfl|assumption):
  PS X (.Assign [.Name x pos'] e pos) (tAsg te (Zdx i)):=by
 intro pins s σ H D I h
 refine wpAny_Assign_Name (thn (he pins s σ H _ I h) fun v s1 ⟨y,H1,I1,r1,q1⟩=>?_) hs
 exact Zjn I1 hN hi hx r1 (fun s2 I2=>⟨_,H1,I2,q1⟩) hf
noncomputable def tPar(i j:Nat)(ta:TA):TS:=fun D σ H=>ta σ H fun vs H1=>∃v w,vs=[v,w]∧D.nx ((σ.set i (some v)).set j (some w)) H1
noncomputable def tAug(i:Nat)(te:TE)(ti:TIp):TS:=fun D σ H=>∃x,σ[i]? =some (some x)∧te σ H fun y H1=>ti x y H1 fun z H2=>D.nx (σ.set i (some z)) H2
noncomputable def Z20(to ti te:TE)(tget:V→V→Hp→VK→Prop)(tip:TIp)(tset:TSet):TS:=fun D σ H=>to σ H fun o H1=>ti σ H1 fun i H2=>tget o i H2 fun x H3=>te σ H3 fun y H4=>tip x y H4 fun z H5=>tset o i z H5 fun H6=>D.nx σ H6
noncomputable def PGet(X:Cx)(t:V→V→Hp→VK→Prop):Prop:=
 ∀(pins:List (Addr×Obj)) (s:Shared) (σ:St) (H:Hp) (o i:V) (ov iv:Value) (Q:VK),Inv X pins σ H s→RelV o ov→RelV i iv→t o i H Q→
  wpAny (model X.prog X.w) X.A (getItem ov iv) (EP X pins σ Q) X.xe s
noncomputable def ipI(f:Int→Int→Int):TIp:=fun x y H Q=>∃i j,x= .int i∧y= .int j∧Q (.int (f i j)) H
end
section
variable{X:Cx}{pos:Pos}
noncomputable def Z1q(c:TT)(tb:TS):TS:=fun D σ H=>∃W:Nat→St→Hp→Prop,(∃m,W m σ H)∧∀m σ H,W m σ H→
 c σ H fun b H1=>if b=true then∃N:St→Hp→Prop,(∀σ' H',N σ' H'→∃m',m'<m∧W m' σ' H')∧tb {D with nx:=N,ct:=N,bk:=D.nx} σ H1 else D.nx σ H1
end
set_option genInjectivity false in
structure It where
 go:Nat→Hp→Prop
 yld:Nat→Hp→V→Hp→Prop
 stop:Nat→Hp→Prop
noncomputable def FpOk(X:Cx)(pins:List (Addr×Obj))(H:Hp)(b:Addr):Prop:=
 H b=none∧b≠X.env.locals∧b∉X.fs∧(b∈X.ex∨X.s₀.heap.objs.size≤b)∧(∀x c,X.env.cells.lookup x=some c→c≠b)∧∀p∈X.pn++pins,p.1≠b
theorem Inv.fpOk{X:Cx}{pins:List (Addr×Obj)}{σ:St}{H H':Hp}{s:Shared}{b:Addr}(I:Inv X pins σ H s)(hb:s.heap.objs.size≤b)(hn:H' b=none):FpOk X pins H' b:=by
 refine⟨hn,Nat.ne_of_gt (Nat.lt_of_lt_of_le I.lt hb),I.nofs hb,.inr (Nat.le_trans I.sz hb),fun x c e z=>?_,fun p hp z=>?_⟩
 ·obtain⟨v,q⟩:=I.cell x c e
  exact absurd (Nat.lt_of_lt_of_le q.lt (by rw[z];exact hb)) (Nat.lt_irrefl _)
 ·exact absurd (Nat.lt_of_lt_of_le (Heap.lt_size (I.pin p hp).1) (by rw[z];exact hb)) (Nat.lt_irrefl _)
structure Turn(P:Program)(w:World)(K:PySem.W.Frag)(tg:Expr)(J:It)(fp:List Addr)(it:Addr)(tn:Nat→Heap→Prop):Prop where
 mem:it∈fp
 obj:∀i h,tn i h→∀b∈fp,∃o,h.get? b=some o∧∀v,o.data≠.cell v
 keep:∀i h h',tn i h→(∀b∈fp,∀o,h.get? b=some o→h'.get? b=some o)→tn i h'
 item:∀(X:Cx),X.prog=P→X.w=w→X.K=K→X.calm=true→∀(i:Nat) (pins:List (Addr×Obj)) (s:Shared) (σ:St) (H:Hp) (E:Value→Shared→Prop),Inv X pins σ H s→(∀b∈fp,FpOk X pins H b)→tn i s.heap→J.go i H→
  wpAny (model P w) X.A (pyNext (.ref it)) (fun r s1=>∃u,r=some u∧
   wpAny (model P w) X.A (letOwnedTupleGo tg (.ref it) u) (fun _ s2=>∃x H',Inv X pins σ H' s2∧RelV x u∧J.yld i H x H'∧tn (i+1) s2.heap∧∀b∈fp,H' b=none) E s1) E s
 done:∀(X:Cx),X.prog=P→X.w=w→X.K=K→X.calm=true→∀(i:Nat) (pins:List (Addr×Obj)) (s:Shared) (σ:St) (H:Hp) (E:Value→Shared→Prop),Inv X pins σ H s→(∀b∈fp,FpOk X pins H b)→tn i s.heap→J.stop i H→
  wpAny (model P w) X.A (pyNext (.ref it)) (fun r s1=>r=none∧Inv X pins σ H s1) E s
 self:∀(A:Around) (i:Nat) (s:Shared) (Q:Value→Shared→Prop) (E:Value→Shared→Prop),tn i s.heap→Q (.ref it) s→wpAny (model P w) A (pyIter (.ref it)) Q E s
noncomputable abbrev TI:=St→Hp→(It→Hp→Prop)→Prop
noncomputable def PIE(X:Cx)(pins:List (Addr×Obj))(σ:St)(tg:Expr)(R:It→Hp→Prop)(itv:Value)(s2:Shared):Prop:=
 ∃(it:Addr) (fp:List Addr) (tn:Nat→Heap→Prop) (J:It) (H':Hp),itv= .ref it∧Inv X pins σ H' s2∧Turn X.prog X.w X.K tg J fp it tn∧tn 0 s2.heap∧(∀b∈fp,FpOk X pins H' b)∧R J H'
noncomputable def PI(X:Cx)(tg iter:Expr)(wi:TI):Prop:=
 ∀(pins:List (Addr×Obj)) (s:Shared) (σ:St) (H:Hp) (R:It→Hp→Prop),Inv X pins σ H s→wi σ H R→
  wpAny (model X.prog X.w) X.A (eval iter X.env) (fun v s1=>wpAny (model X.prog X.w) X.A (pyIter v) (PIE X pins σ tg R) X.xe s1) X.xe s
theorem Zk5{M:Model}{A:Around}{E:Value→Shared→Prop}{s:Shared}{tg:Expr}{it:Addr}{u:Value}{o:Obj}{n:String}{vs:Array Value}{Q:Unit→Shared→Prop}(ho:s.heap.get? it=some o)(hc:o.cls= .type n)(hd:o.data= .fields vs)
    (hn:["enumerate","zip","dict_itemiterator","dict_reverseitemiterator","odict_iterator","itertools.zip_longest","itertools.pairwise"].contains n=false) (hQ:Q () s):wpAny M A (letOwnedTupleGo tg (.ref it) u) Q E s:=by
  unfold letOwnedTupleGo
  cases tg<;> first
    |exact wpAny_pure hQ
    | (cases u<;> first
        |exact wpAny_pure hQ
        | (refine wpAny_bind (wpAny_load ho ?_)
           rw[hc,hd]
           show wpAny M A (if(["enumerate","zip","dict_itemiterator","dict_reverseitemiterator","odict_iterator","itertools.zip_longest","itertools.pairwise"].contains n&&vs[0]? ==some (rawInt _))=true then _ else _) Q E s
           rw[if_neg (by intro h;rw[hn,Bool.false_and]at h;cases h)]
           exact wpAny_pure hQ))
noncomputable def Itl(K:PySem.W.Frag)(a:Addr):It:=
 ⟨fun i H=>∃xs x,SqL K H a xs∧xs[i]? =some x,fun i H x H'=>H'=H∧∀xs,SqL K H a xs→xs[i]? =some x,fun i H=>∃xs,SqL K H a xs∧xs.length≤i⟩
noncomputable def Itt(K:PySem.W.Frag)(a:Addr):It:=
 ⟨fun i H=>∃xs x,SqT K H a xs∧xs[i]? =some x,fun i H x H'=>H'=H∧∀xs,SqT K H a xs→xs[i]? =some x,fun i H=>∃xs,SqT K H a xs∧xs.length≤i⟩
noncomputable def Itr(lo:Int)(n:Nat):It:=⟨fun i _=>i<n,fun i H x H'=>H'=H∧x= .int (lo+i),fun i _=>n≤i⟩
theorem Zl9{P:Program}{w:World}{K:PySem.W.Frag}{tg:Expr}(a it:Addr):Turn P w K tg (Itl K a) [it] it (fun i h=>h.IsListIter it a i)where
 mem:=by simp
 obj:=fun i h st b hb=>by
  have e:b=it:=by simpa using hb
  subst e
  obtain⟨o,e,c,d⟩:=st
  exact⟨o,e,fun v z=>by rw[d]at z;cases z⟩
 keep:=fun i h h' st k=>st.at fun o e=>k it (by simp) o e
 item:=by
  intro X hP hw hK hc i pins s σ H E I hf st hg
  subst hP hw hK
  obtain⟨xs,x,hq,hx⟩:=hg
  obtain⟨its,rv,p,hz⟩:=I.list hq
  obtain⟨u,hu,ru⟩:=rv.get hx
  obtain⟨f0,f1,f2,f3,f4,f5⟩:=hf it (by simp)
  refine wpAny_pyNext_list_item st p.isList (x:=u) (by simpa using hu) fun h' st' sb=>?_
  have I1:Inv X pins σ H {s with heap:=h'}:=I.turned (t':=s.toks) (fun b o hb e=>(sb.2 b hb).trans e) f0 f1 f3 f4 f5
  obtain⟨o,e,c,d⟩:=id st'
  exact⟨u,rfl,Zk5 (s:={s with heap:=h'}) e c d (by decide) ⟨x,H,I1,ru,⟨rfl,fun ys hy=>by rw[I.list_inj hy hq];exact hx⟩,st',fun b hb=>(hf b hb).1⟩⟩
 done:=by
  intro X hP hw hK hc i pins s σ H E I hf st hg
  subst hP hw hK
  obtain⟨xs,hq,hx⟩:=hg
  obtain⟨its,rv,p,hz⟩:=I.list hq
  obtain⟨f0,f1,f2,f3,f4,f5⟩:=hf it (by simp)
  have hl:=rv.length
  exact wpAny_pyNext_list_end (I.ok.hd hc) st p.isList (by simp;omega) fun h' eb=>⟨rfl,I.turned (t':=s.toks) (fun b o hb e=>eb b o hb e) f0 f1 f3 f4 f5⟩
 self:=fun _ _ _ _ _ st h=>wpAny_pyIter_listiter st h
theorem Zk6{P:Program}{w:World}{K:PySem.W.Frag}{tg:Expr}(a it:Addr):Turn P w K tg (Itt K a) [it] it (fun i h=>h.IsTupleIter it a i)where
 mem:=by simp
 obj:=fun i h st b hb=>by
  have e:b=it:=by simpa using hb
  subst e
  obtain⟨o,e,c,d⟩:=st
  exact⟨o,e,fun v z=>by rw[d]at z;cases z⟩
 keep:=fun i h h' st k=>st.at fun o e=>k it (by simp) o e
 item:=by
  intro X hP hw hK hc i pins s σ H E I hf st hg
  subst hP hw hK
  obtain⟨xs,x,hq,hx⟩:=hg
  obtain⟨its,rv,p,hz⟩:=I.tuple hq
  obtain⟨u,hu,ru⟩:=rv.get hx
  obtain⟨f0,f1,f2,f3,f4,f5⟩:=hf it (by simp)
  refine wpAny_pyNext_tuple_item st (show s.heap.IsTuple a its.toArray from p) (x:=u) (by simpa using hu) fun h' st' sb=>?_
  have I1:Inv X pins σ H {s with heap:=h'}:=I.turned (t':=s.toks) (fun b o hb e=>(sb.2 b hb).trans e) f0 f1 f3 f4 f5
  obtain⟨o,e,c,d⟩:=id st'
  exact⟨u,rfl,Zk5 (s:={s with heap:=h'}) e c d (by decide) ⟨x,H,I1,ru,⟨rfl,fun ys hy=>by rw[I.tuple_inj hy hq];exact hx⟩,st',fun b hb=>(hf b hb).1⟩⟩
 done:=by
  intro X hP hw hK hc i pins s σ H E I hf st hg
  subst hP hw hK
  obtain⟨xs,hq,hx⟩:=hg
  obtain⟨its,rv,p,hz⟩:=I.tuple hq
  obtain⟨f0,f1,f2,f3,f4,f5⟩:=hf it (by simp)
  have hl:=rv.length
  exact wpAny_pyNext_tuple_end (I.ok.hd hc) st (show s.heap.IsTuple a its.toArray from p) (by simp;omega) fun h' eb=>⟨rfl,I.turned (t':=s.toks) (fun b o hb e=>eb b o hb e) f0 f1 f3 f4 f5⟩
 self:=fun _ _ _ _ _ st h=>wpAny_pyIter_tupleiter st h
theorem Zk7{P:Program}{w:World}{K:PySem.W.Frag}{tg:Expr}(it:Addr)(lo:Int)(n:Nat):Turn P w K tg (Itr lo n) [it] it (fun i h=>IsRangeIter h it (lo+(i:Nat)*1) ((n:Int)- (i:Nat)) 1)where
 mem:=by simp
 obj:=fun i h st b hb=>by
  have e:b=it:=by simpa using hb
  subst e
  exact⟨_,st,fun v z=>by
   have z':Data.fields _=Data.cell v:=z
   cases z'⟩
 keep:=fun i h h' st k=>k it (by simp) _ st
 item:=by
  intro X hP hw hK hc i pins s σ H E I hf st hg
  subst hP hw hK
  obtain⟨f0,f1,f2,f3,f4,f5⟩:=hf it (by simp)
  have W:=Walks.range (prog:=X.prog) (w:=X.w) (I.ok.hd hc) it lo 1 n
  refine W.item i s _ _ hg st fun v h' tk hv st' kk=>?_
  obtain⟨t,rfl⟩:=hv
  have I1:Inv X pins σ H {s with heap:=h',toks:=tk}:=I.turned (fun b o hb e=>kk b o (by simpa using hb) e) f0 f1 f3 f4 f5
  refine⟨_,rfl,Zk5 (s:={s with heap:=h',toks:=tk}) (n:="range_iterator") st' rfl rfl (by decide) ⟨.int (lo+i),H,I1,⟨t,?_⟩,⟨rfl,rfl⟩,st',fun b hb=>(hf b hb).1⟩⟩
  rw[Int.mul_one]
 done:=by
  intro X hP hw hK hc i pins s σ H E I hf st hg
  subst hP hw hK
  obtain⟨f0,f1,f2,f3,f4,f5⟩:=hf it (by simp)
  exact wpAny_pyNext_range_end (I.ok.hd hc) st (by have:n≤i:=hg;omega) fun h' eb=>⟨rfl,I.turned (t':=s.toks) (fun b o hb e=>eb b o hb e) f0 f1 f3 f4 f5⟩
 self:=fun _ _ _ _ _ st h=>wpAny_pyIter_rangeiter st h
end L2
namespace L2
open PySem PySem.Spec PyProof.Rows
section
variable{X:Cx}{tg:Expr}
noncomputable def Z21(K:PySem.W.Frag)(tl:TE):TI:=fun σ H R=>tl σ H fun x H1=>∃a,x= .ref a∧(∃xs,SqL K H1 a xs)∧R (Itl K a) H1
noncomputable def iTup(K:PySem.W.Frag)(tl:TE):TI:=fun σ H R=>tl σ H fun x H1=>∃a,x= .ref a∧(∃xs,SqT K H1 a xs)∧R (Itt K a) H1
theorem Zpp{pins:List (Addr×Obj)}{σ:St}{H:Hp}{s:Shared}{R:It→Hp→Prop}{E:Value→Shared→Prop}{lo hi:Int}{t u v:Tok}{tk:Nat}(I:Inv X pins σ H s)(h1:-(2^62)≤lo)(h2:lo<2^62)(h3:-(2^62)≤hi)(h4:hi<2^62)
  (q:R (Itr lo (hi- lo).toNat) H):wpAny (model X.prog X.w) X.A (pyIter (.ref s.heap.objs.size)) (PIE X pins σ tg R) E {s with heap:=s.heap.push {cls:=.type "range",data:=.fields #[.int lo t,.int hi u,.int 1 v]},toks:=tk}:=by
 refine wpAny_pyIter_range (IsRange.new ..) (small_one h1 h2 h3 h4) ?_
 have I1:Inv X pins σ H {s with heap:=s.heap.push {cls:=.type "range",data:=.fields #[.int lo t,.int hi u,.int 1 v]},toks:=tk}:=I.kept fun b o e=>Heap.get?_push_of_some _ e
 refine⟨(s.heap.push {cls:=.type "range",data:=.fields #[.int lo t,.int hi u,.int 1 v]}).objs.size,[(s.heap.push {cls:=.type "range",data:=.fields #[.int lo t,.int hi u,.int 1 v]}).objs.size],_,_,H,rfl,
  I1.kept (t':=tk) fun b o e=>Heap.get?_push_of_some _ e,Zk7 _ lo (hi- lo).toNat,?_,fun b hb=>?_,q⟩
 ·have e1:lo+((0:Nat):Int)*1=lo:=by simp
  have e2:(((hi- lo).toNat:Nat):Int)- ((0:Nat):Int)=Builtin.Range.rangeSize lo hi 1:=by rw[rangeSize_one];split<;> omega
  show IsRangeIter _ _ (lo+((0:Nat):Int)*1) ((((hi- lo).toNat:Nat):Int)- ((0:Nat):Int)) 1
  rw[e1,e2]
  exact Heap.get?_push_size _ rfl
 ·have e:b=(s.heap.push {cls:=.type "range",data:=.fields #[.int lo t,.int hi u,.int 1 v]}).objs.size:=by simpa using hb
  subst e
  exact I1.fpOk (Nat.le_refl _) (I1.hok.fresh (Nat.le_refl _))
noncomputable def Zvm(ta:TA):TI:=fun σ H R=>ta σ H fun vs H1=>∃j:Int,vs=[.int j]∧-(2^62)≤j∧j<2^62∧R (Itr 0 j.toNat) H1
noncomputable def Z22(ta:TA):TI:=fun σ H R=>ta σ H fun vs H1=>∃i j:Int,vs=[.int i,.int j]∧(-(2^62)≤i∧i<2^62∧-(2^62)≤j∧j<2^62)∧R (Itr i (j- i).toNat) H1
theorem Zma{a:Expr}{ta:TA}{p pos:Pos}(hg:Gl X "range")(hm:X.mg "range"=none)(ha:PA X [a] ta)(hs:starEach [a] X.env=[(false,eval a X.env)]:=by rfl):PI X tg (.Call (.Name "range" p) [a] [] pos) (Zvm ta):=by
 intro pins s σ H R I h
 refine Call_ (Zdw I hg hm boot_range (PyProof.Rows.callWith_type1 (thn (ha pos pins s σ H _ I h) fun us s1 ⟨vs,H1,I1,r1,q1⟩=>?_) hs rfl))
 obtain⟨j,e,q1,q2,q⟩:=q1
 subst e
 cases r1 with
 |cons r rr=>
  cases rr
  obtain⟨t,rfl⟩:=r
  exact call_range_1 (Zpp I1 (by omega) (by omega) q1 q2 (by simpa using q))
noncomputable def tFor(wi:TI)(g:TG)(tb:TS):TS:=fun D σ H=>wi σ H fun J H1=>∃W:Nat→Nat→St→Hp→Prop,(∃m,W 0 m σ H1)∧∀i m σ H,W i m σ H→
 (J.stop i H∧D.nx σ H)∨(J.go i H∧∃N:St→Hp→Prop,(∀σ' H',N σ' H'→∃m',m'<m∧W (i+1) m' σ' H')∧∀x H',J.yld i H x H'→g x σ H' fun σ2 H2=>tb {D with nx:=N,ct:=N,bk:=D.nx} σ2 H2)
noncomputable def Zgk(fp:List Addr)(h:Heap):List (Addr×Obj):=fp.filterMap fun b=>(h.get? b).map fun o=>(b,o)
theorem Zce{fp:List Addr}{h:Heap}{b:Addr}{o:Obj}(hb:b∈fp)(e:h.get? b=some o):(b,o)∈Zgk fp h:=List.mem_filterMap.mpr ⟨b,hb,by rw[e];rfl⟩
theorem Zmb{fp:List Addr}{h:Heap}{p:Addr×Obj}(hp:p∈Zgk fp h):p.1∈fp∧h.get? p.1=some p.2:=by
 obtain⟨b,hb,e⟩:=List.mem_filterMap.mp hp
 cases q:h.get? b with
 |none=>rw[q]at e;cases e
 |some o=>
  rw[q]at e
  have e':(b,o)=p:=Option.some.inj e
  subst e'
  exact⟨hb,q⟩
theorem Inv.pinned{pins:List (Addr×Obj)}{σ:St}{H:Hp}{s:Shared}{fp:List Addr}(I:Inv X pins σ H s)(hf:∀b∈fp,FpOk X pins H b)(ho:∀b∈fp,∃o,s.heap.get? b=some o∧∀v,o.data≠.cell v):Inv X (pins++Zgk fp s.heap) σ H s:=
 I.pins_of fun p hp=>(List.mem_append.mp hp).elim (fun z=>I.pin p (List.mem_append_right _ z)) fun z=>by
  obtain⟨hb,e⟩:=Zmb z
  obtain⟨f0,f1,f2,_⟩:=hf p.1 hb
  obtain⟨o,e',d⟩:=ho p.1 hb
  rw[e]at e';cases e'
  exact⟨e,f0,f1,f2,d⟩
theorem Inv.unpinned{pins pl:List (Addr×Obj)}{σ:St}{H:Hp}{s:Shared}(I:Inv X (pins++pl) σ H s):Inv X pins σ H s:=I.pins_of fun p hp=>I.pin p (List.mem_append_right _ (List.mem_append_left _ hp))
theorem Zrl {iter : Expr} {body : List Stmt} {wi : TI} {g : TG} {tb : TS} {pos : Pos} (hp : PassesOwn (model X.prog X.w) X.A X.env X.xe) (hc : X.calm = true) (hi : PI X tg iter wi) (hg : PG X tg g) (hb : PSs X body tb)
    (hs : ∀ x, foldedSetIterable iter X.env x = pure x := by intro _; rfl) : PS X (.For tg iter body [] pos) (tFor wi g tb) := by
  intro pins s σ H D I h
  refine wpAny_For (thn (hi pins s σ H _ I h) fun v s1 h1 => thn h1 fun itv s2 h2 => ?_) hs
  obtain ⟨it, fp, tn, J, H2, e, I2, T, st2, f2, W, ⟨m0, w0⟩, turn⟩ := h2
  subst e
  -- what stays true of the iterator's objects through the loop
  have stat : ∀ {H' : Hp}, (∀ b ∈ fp, H' b = none) → ∀ b ∈ fp, FpOk X pins H' b := fun hn b hb => ⟨hn b hb, (f2 b hb).2⟩
  refine codeAny_forLoop_any (fun n s' => ∃ i σ' H', Inv X pins σ' H' s' ∧ tn i s'.heap ∧ (∀ b ∈ fp, H' b = none) ∧ W i n σ' H') ?_ m0 ⟨0, σ, H2, I2, st2, fun b hb => (f2 b hb).1, w0⟩
  rintro n s3 ⟨i, σ3, H3, I3, st3, fr3, w3⟩
  rcases turn i n σ3 H3 w3 with ⟨stop, qn⟩ | ⟨go, N, hN, step⟩
  · refine wpAny_passesOwn hp (thn (T.done X rfl rfl rfl hc i pins s3 σ3 H3 X.xe I3 (stat fr3) st3 stop) fun r s4 ⟨hr, I4⟩ => ?_)
    subst hr
    exact wpAny_execs_nil ⟨σ3, H3, I4, qn⟩
  · refine wpAny_passesOwn hp (thn (T.item X rfl rfl rfl hc i pins s3 σ3 H3 X.xe I3 (stat fr3) st3 go) fun r s4 ⟨u, hr, h4⟩ => ?_)
    subst hr
    refine wpAny_passesOwn hp (thn h4 fun _ s5 zq9 => ?_)
    obtain ⟨x, H5, I5, r5, y5, st5, fr5⟩ := zq9
    have I5' := I5.pinned (stat fr5) (T.obj _ _ st5)
    refine wpAny_passesOwn hp (thn (hg _ s5 σ3 H5 x u _ I5' r5 (step x H5 y5)) fun _ s6 zq9 => ?_)
    obtain ⟨σ6, H6, I6, q6⟩ := zq9
    refine wpAny_passesOwn hp (thn (hb _ s6 σ6 H6 _ I6 q6) fun f s7 q7 => ?_)
    have again : ∀ {σ7 : St} {H7 : Hp}, Inv X (pins ++ Zgk fp s5.heap) σ7 H7 s7 → N σ7 H7 → ∃ m, m < n ∧ ∃ i σ' H', Inv X pins σ' H' s7 ∧ tn i s7.heap ∧ (∀ b ∈ fp, H' b = none) ∧ W i m σ' H' := fun {σ7 H7} I7 n7 => by
      obtain ⟨m', hm, w7⟩ := hN σ7 H7 n7
      refine ⟨m', hm, i + 1, σ7, H7, I7.unpinned, T.keep _ _ _ st5 fun b hb o e => (I7.pin (b, o) (List.mem_append_right _ (List.mem_append_right _ (Zce hb e)))).1, fun b hb => ?_, w7⟩
      obtain ⟨o, e, d⟩ := T.obj _ _ st5 b hb
      exact (I7.pin (b, o) (List.mem_append_right _ (List.mem_append_right _ (Zce hb e)))).2.1
    cases f with
    | next => obtain ⟨σ7, H7, I7, n7⟩ := q7; exact again I7 n7
    | cont => obtain ⟨σ7, H7, I7, n7⟩ := q7; exact again I7 n7
    | brk => obtain ⟨σ7, H7, I7, q7⟩ := q7; exact ⟨σ7, H7, I7.unpinned, q7⟩
    | ret v => obtain ⟨x7, σ7, H7, I7, r7, q7⟩ := q7; exact ⟨x7, σ7, H7, I7.unpinned, r7, q7⟩
end
end L2
namespace L2
open PySem PySem.Spec PyProof.Rows
noncomputable abbrev R2:=V→V→Hp→VK→Prop
noncomputable def OpR(X:Cx)(f:Value→Value→Sem Value)(r:R2):Prop:=
 ∀(pins:List (Addr×Obj)) (s:Shared) (σ:St) (H:Hp) (x y:V) (v u:Value) (Q:VK),Inv X pins σ H s→RelV x v→RelV y u→r x y H Q→
  wpAny (model X.prog X.w) X.A (f v u) (EP X pins σ Q) X.xe s
noncomputable def UnR(X:Cx)(f:Value→Sem Value)(r:V→Hp→VK→Prop):Prop:=
 ∀(pins:List (Addr×Obj)) (s:Shared) (σ:St) (H:Hp) (x:V) (v:Value) (Q:VK),Inv X pins σ H s→RelV x v→r x H Q→
  wpAny (model X.prog X.w) X.A (f v) (EP X pins σ Q) X.xe s
noncomputable def Zcu(X:Cx)(f:Value)(r:List V→Hp→VK→Prop):Prop:=
 ∀(pins:List (Addr×Obj)) (s:Shared) (σ:St) (H:Hp) (xs:List V) (us:List Value) (Q:VK),Inv X pins σ H s→Vals xs us→r xs H Q→
  wpAny (model X.prog X.w) X.A (call f us) (EP X pins σ Q) X.xe s
noncomputable def TruR(X:Cx)(r:V→Hp→(Bool→Hp→Prop)→Prop):Prop:=
 ∀(pins:List (Addr×Obj)) (s:Shared) (σ:St) (H:Hp) (x:V) (v:Value) (Q:Bool→Hp→Prop),Inv X pins σ H s→RelV x v→r x H Q→
  wpAny (model X.prog X.w) X.A (truthy v) (TP X pins σ Q) X.xe s
noncomputable def tOp(r:R2)(ta tb:TE):TE:=fun σ H Q=>ta σ H fun x H1=>tb σ H1 fun y H2=>r x y H2 Q
noncomputable def tUn(r:V→Hp→VK→Prop)(ta:TE):TE:=fun σ H Q=>ta σ H fun x H1=>r x H1 Q
noncomputable def rI(C:Int→Int→Prop)(g:Int→Int→V):R2:=fun x y H Q=>∃i j,x= .int i∧y= .int j∧C i j∧Q (g i j) H
noncomputable def rI0(g:Int→Int→V):R2:=fun x y H Q=>∃i j,x= .int i∧y= .int j∧Q (g i j) H
noncomputable def rU(g:Int→V):V→Hp→VK→Prop:=fun x H Q=>∃i,x= .int i∧Q (g i) H
section
variable{X:Cx}{a b c:Expr}{ta tb tc:TE}{pos:Pos}
theorem binT(ha:PE X a ta)(hb:PE X b tb){pins:List (Addr×Obj)}{s:Shared}{σ:St}{H:Hp}{R:V→V→Hp→Prop}(I:Inv X pins σ H s)
  (h:ta σ H fun x H1=>tb σ H1 fun y H2=>R x y H2) {Q:Value→Shared→Prop} {f:Value→Value→Sem Value}
  (hf:∀v u s2 x y H2,Inv X pins σ H2 s2→RelV x v→RelV y u→R x y H2→wpAny (model X.prog X.w) X.A (f v u) Q X.xe s2):
  wpAny (model X.prog X.w) X.A (eval a X.env) (fun v s₁=>wpAny (model X.prog X.w) X.A (eval b X.env) (fun u s₂=>wpAny (model X.prog X.w) X.A (f v u) Q X.xe s₂) X.xe s₁) X.xe s:=by
 refine thn (ha pins s σ H _ I h) fun v s1 zq9=>?_
 obtain⟨x,H1,I1,r1,q1⟩:=zq9
 refine thn (hb pins s1 σ H1 _ I1 q1) fun u s2 zq9=>?_
 obtain⟨y,H2,I2,r2,q2⟩:=zq9
 exact hf v u s2 x y H2 I2 r1 r2 q2
theorem Zvn{op:Operator}{r:R2}(ho:OpR X (binaryOp op) r)(ha:PE X a ta)(hb:PE X b tb):PE X (.BinOp a op b pos) (tOp r ta tb):=by
 intro pins s σ H Q I h
 exact wpAny_BinOp (binT ha hb I h fun v u s2 x y H2 I2 rx ry q=>ho pins s2 σ H2 x y v u Q I2 rx ry q)
theorem opI{f:Value→Value→Sem Value}{C:Int→Int→Prop}{g:Int→Int→Int}
  (rule:∀(i j:Int) (t u:Tok) (s:Shared) (Q:Value→Shared→Prop) (E:Value→Shared→Prop),C i j→Q (.int (g i j) s.toks) {s with toks:=s.toks+1}→wpAny (model X.prog X.w) X.A (f (.int i t) (.int j u)) Q E s):
  OpR X f (rI C fun i j=>.int (g i j)):=by
 intro pins s σ H x y v u Q I rx ry h
 obtain⟨i,j,rfl,rfl,hc,q⟩:=h
 obtain⟨t,rfl⟩:=rx
 obtain⟨t',rfl⟩:=ry
 exact rule i j t t' s _ _ hc ⟨.int (g i j),H,I.tok _,⟨_,rfl⟩,q⟩
theorem opI0{f:Value→Value→Sem Value}{g:Int→Int→Int}
  (rule:∀(i j:Int) (t u:Tok) (s:Shared) (Q:Value→Shared→Prop) (E:Value→Shared→Prop),Q (.int (g i j) s.toks) {s with toks:=s.toks+1}→wpAny (model X.prog X.w) X.A (f (.int i t) (.int j u)) Q E s):
  OpR X f (rI0 fun i j=>.int (g i j)):=by
 intro pins s σ H x y v u Q I rx ry h
 obtain⟨i,j,rfl,rfl,q⟩:=h
 obtain⟨t,rfl⟩:=rx
 obtain⟨t',rfl⟩:=ry
 exact rule i j t t' s _ _ ⟨.int (g i j),H,I.tok _,⟨_,rfl⟩,q⟩
theorem opB0{f:Value→Value→Sem Value}{g:Int→Int→Bool}
  (rule:∀(i j:Int) (t u:Tok) (s:Shared) (Q:Value→Shared→Prop) (E:Value→Shared→Prop),Q (.bool (g i j)) s→wpAny (model X.prog X.w) X.A (f (.int i t) (.int j u)) Q E s):
  OpR X f (rI0 fun i j=>.bl (g i j)):=by
 intro pins s σ H x y v u Q I rx ry h
 obtain⟨i,j,rfl,rfl,q⟩:=h
 obtain⟨t,rfl⟩:=rx
 obtain⟨t',rfl⟩:=ry
 exact rule i j t t' s _ _ ⟨.bl (g i j),H,I,rfl,q⟩
noncomputable def CDiv(i j:Int):Prop:=0<j∧j<1073741824
noncomputable def Z23(i j:Int):Prop:=j≠0∧j.natAbs<1073741824
noncomputable def CPow(i j:Int):Prop:=0≤j∧j≤1000000∧i.natAbs<2^64
noncomputable def CMul(i j:Int):Prop:=(-(2^64)<i∧i<2^64)∨(-(2^64)<j∧j<2^64)
theorem CMul.ok{i j:Int}(h:CMul i j):IntMulOk i j:=by
 rcases h with⟨h1,h2⟩|⟨h1,h2⟩
 ·exact .of_left (intBits_le_64 h1 h2)
 ·exact .of_right (intBits_le_64 h1 h2)
theorem Zvo:OpR X (binaryOp .Add) (rI0 fun i j=>.int (i+j)):=opI0 fun _ _ _ _ _ _ _ q=>add_int q
theorem Zvp:OpR X (binaryOp .Mult) (rI CMul fun i j=>.int (i*j)):=opI fun _ _ _ _ _ _ _ hc q=>mul_int q hc.ok
theorem Zsq:OpR X (binaryOp .FloorDiv) (rI CDiv fun i j=>.int (i / j)):=opI fun i j _ _ _ _ _ hc q=>by
 have h1:(0:Int)<j:=hc.1
 have h2:j<1073741824:=hc.2
 exact floordiv_int (by omega) (by rw[Int.fdiv_eq_ediv_of_nonneg i (by omega)];exact q) (.inl (PyProof.noPylong_small (by omega)))
theorem Zvq:OpR X (binaryOp .Mod) (rI (fun _ j=>0<j) fun i j=>.int (i % j)):=opI fun i j _ _ _ _ _ hc q=>by
 have h1:(0:Int)<j:=hc
 exact mod_int' (by omega) (by rw[Int.fmod_eq_emod_of_nonneg i (by omega)];exact q)
end
noncomputable def scal:V→V→Bool
 | .non,.non=>true| .non,.int _=>true| .int _,.non=>true| .non,.bl _=>true| .bl _,.non=>true| .non,.str _=>true| .str _,.non=>true
 | .int _,.int _=>true| .bl _,.bl _=>true| .str _,.str _=>true| .byt _,.byt _=>true
 | .int _,.str _=>true| .str _,.int _=>true| .bl _,.str _=>true| .str _,.bl _=>true
 |_,_=>false
noncomputable def rEq:R2:=fun x y H Q=>scal x y=true∧Q (.bl (decide (x=y))) H
noncomputable def rNe:R2:=fun x y H Q=>scal x y=true∧Q (.bl (!decide (x=y))) H
theorem Zmc{i j:Int}:decide (V.int i=V.int j)=(i==j):=by
 rw[Bool.eq_iff_iff]
 simp
theorem Zrm{i j:Bool}:decide (V.bl i=V.bl j)=(i==j):=by
 rw[Bool.eq_iff_iff]
 simp
theorem Zmd{i j:Str}:decide (V.str i=V.str j)=(i==j):=by
 rw[Bool.eq_iff_iff]
 simp
theorem Zme{i j:Array UInt8}:decide (V.byt i=V.byt j)=(i.toList==j.toList):=by
 rw[Bool.eq_iff_iff]
 cases i
 cases j
 simp
section
variable{X:Cx}{a b c:Expr}{ta tb tc:TE}{pos:Pos}
theorem Zu{pins:List (Addr×Obj)}{σ:St}{H:Hp}{s:Shared}{Q:VK}{k k':Bool}(I:Inv X pins σ H s)(q:Q (.bl k) H)(e:k=k'):EP X pins σ Q (.bool k') s:=by
 subst e
 exact⟨.bl k,H,I,rfl,q⟩
theorem Zvr:OpR X (compareOp .Eq) rEq:=by
 intro pins s σ H x y v u Q I rx ry h
 obtain⟨hs,q⟩:=h
 cases x with
 |non=>
  cases rx
  cases y with
  |non=>cases ry;exact PySem.EqNone.eq_none_none (Zu I q (by simp))
  |bl j=>cases ry;exact PySem.EqNone.eq_none_bool (Zu I q (by simp))
  |int j=>obtain⟨t',rfl⟩:=ry;exact PySem.EqNone.eq_none_int (Zu I q (by simp))
  |str j=>obtain⟨t',rfl⟩:=ry;exact PySem.EqNone.eq_none_str (Zu I q (by simp))
  |_=>exact absurd (show false=true from hs) Bool.false_ne_true
 |bl i=>
  cases rx
  cases y with
  |non=>cases ry;exact PySem.EqNone.eq_bool_none (Zu I q (by simp))
  |bl j=>cases ry;exact eq_bool (Zu I q Zrm)
  |str j=>obtain⟨t',rfl⟩:=ry;exact PySem.EqMixed.eq_bool_str (Zu I q (by simp))
  |_=>exact absurd (show false=true from hs) Bool.false_ne_true
 |int i=>
  obtain⟨t,rfl⟩:=rx
  cases y with
  |non=>cases ry;exact PySem.EqNone.eq_int_none (Zu I q (by simp))
  |int j=>obtain⟨t',rfl⟩:=ry;exact eq_int (Zu I q Zmc)
  |str j=>obtain⟨t',rfl⟩:=ry;exact PySem.EqMixed.eq_int_str (Zu I q (by simp))
  |_=>exact absurd (show false=true from hs) Bool.false_ne_true
 |str i=>
  obtain⟨t,rfl⟩:=rx
  cases y with
  |non=>cases ry;exact PySem.EqNone.eq_str_none (Zu I q (by simp))
  |bl j=>cases ry;exact PySem.EqMixed.eq_str_bool (Zu I q (by simp))
  |int j=>obtain⟨t',rfl⟩:=ry;exact PySem.EqMixed.eq_str_int (Zu I q (by simp))
  |str j=>obtain⟨t',rfl⟩:=ry;exact eq_str (Zu I q Zmd)
  |_=>exact absurd (show false=true from hs) Bool.false_ne_true
 |byt i=>
  obtain⟨t,rfl⟩:=rx
  cases y with
  |byt j=>obtain⟨t',rfl⟩:=ry;exact PySem.W.eq_bytes (Zu I q Zme)
  |_=>exact absurd (show false=true from hs) Bool.false_ne_true
 |_=>cases y<;> exact absurd (show false=true from hs) Bool.false_ne_true
theorem Zze:OpR X (compareOp .NotEq) rNe:=by
 intro pins s σ H x y v u Q I rx ry h
 obtain⟨hs,q⟩:=h
 cases x with
 |non=>
  cases rx
  cases y with
  |non=>cases ry;exact PySem.EqNone.ne_none_none (Zu I q (by simp))
  |bl j=>cases ry;exact PySem.EqNone.ne_none_bool (Zu I q (by simp))
  |int j=>obtain⟨t',rfl⟩:=ry;exact PySem.EqNone.ne_none_int (Zu I q (by simp))
  |str j=>obtain⟨t',rfl⟩:=ry;exact PySem.EqNone.ne_none_str (Zu I q (by simp))
  |_=>exact absurd (show false=true from hs) Bool.false_ne_true
 |bl i=>
  cases rx
  cases y with
  |non=>cases ry;exact PySem.EqNone.ne_bool_none (Zu I q (by simp))
  |bl j=>cases ry;exact ne_bool (Zu I q (congrArg not Zrm))
  |str j=>obtain⟨t',rfl⟩:=ry;exact PySem.EqMixed.ne_bool_str (Zu I q (by simp))
  |_=>exact absurd (show false=true from hs) Bool.false_ne_true
 |int i=>
  obtain⟨t,rfl⟩:=rx
  cases y with
  |non=>cases ry;exact PySem.EqNone.ne_int_none (Zu I q (by simp))
  |int j=>obtain⟨t',rfl⟩:=ry;exact ne_int (Zu I q (congrArg not Zmc))
  |str j=>obtain⟨t',rfl⟩:=ry;exact PySem.EqMixed.ne_int_str (Zu I q (by simp))
  |_=>exact absurd (show false=true from hs) Bool.false_ne_true
 |str i=>
  obtain⟨t,rfl⟩:=rx
  cases y with
  |non=>cases ry;exact PySem.EqNone.ne_str_none (Zu I q (by simp))
  |bl j=>cases ry;exact PySem.EqMixed.ne_str_bool (Zu I q (by simp))
  |int j=>obtain⟨t',rfl⟩:=ry;exact PySem.EqMixed.ne_str_int (Zu I q (by simp))
  |str j=>obtain⟨t',rfl⟩:=ry;exact ne_str (Zu I q (congrArg not Zmd))
  |_=>exact absurd (show false=true from hs) Bool.false_ne_true
 |byt i=>
  obtain⟨t,rfl⟩:=rx
  cases y with
  |byt j=>obtain⟨t',rfl⟩:=ry;exact PySem.W.ne_bytes (Zu I q (congrArg not Zme))
  |_=>exact absurd (show false=true from hs) Bool.false_ne_true
 |_=>cases y<;> exact absurd (show false=true from hs) Bool.false_ne_true
theorem Zzf:OpR X (compareOp .Lt) (rI0 fun i j=>.bl (decide (i<j))):=opB0 fun _ _ _ _ _ _ _ q=>lt_int q
theorem Zvs:OpR X (compareOp .LtE) (rI0 fun i j=>.bl (decide (i≤j))):=opB0 fun _ _ _ _ _ _ _ q=>le_int q
theorem Zgl:OpR X (compareOp .In) (fun x y H Q=>∃i j,x= .str i∧y= .str j∧Q (.bl (!(Builtin.Str.occurrences j i 0 j.length 1).isEmpty)) H):=by
 intro pins s σ H x y v u Q I rx ry h
 obtain⟨i,j,rfl,rfl,q⟩:=h
 obtain⟨t,rfl⟩:=rx
 obtain⟨t',rfl⟩:=ry
 exact in_str (Zu I q rfl)
theorem Zvt:OpR X (compareOp .Is) (fun x y H Q=>y= .non∧Q (.bl (decide (x= .non))) H):=by
 intro pins s σ H x y v u Q I rx ry h
 obtain⟨rfl,q⟩:=h
 cases ry
 refine is_none_gen (Zu I q ?_)
 cases x<;> first
  | (cases rx;rfl)
  | (obtain⟨t,rfl⟩:=rx;rfl)
noncomputable def Z24:HO→Bool
 | .lst _=>true
 | .ins _ _ _=>true
 |_=>false
theorem OpR.or{f:Value→Value→Sem Value}{r r':R2}(h:OpR X f r)(h':OpR X f r'):OpR X f (fun x y H Q=>r x y H Q∨r' x y H Q):=by
 intro pins s σ H x y v u Q I rx ry q
 rcases q with q|q
 ·exact h pins s σ H x y v u Q I rx ry q
 ·exact h' pins s σ H x y v u Q I rx ry q
theorem Zgm(b:Expr){op:CmpOp}(h:op≠.In:=by decide)(h2:op≠.NotIn:=by decide):behindInMarks op b=false:=by
 have e1:(op==CmpOp.In)=false:=by cases op<;> first|rfl|exact absurd rfl h
 have e2:(op==CmpOp.NotIn)=false:=by cases op<;> first|rfl|exact absurd rfl h2
 cases b<;> simp[behindInMarks,e1,e2]
theorem Zsr{op:CmpOp}{r:R2}(ho:OpR X (compareOp op) r)(ha:PE X a ta)(hb:PE X b tb)(hm:behindInMarks op b=false):PE X (.Compare a [op] [b] pos) (tOp r ta tb):=by
 intro pins s σ H Q I h
 exact wpAny_Compare1 (binT ha hb I h fun v u s2 x y H2 I2 rx ry q=>ho pins s2 σ H2 x y v u Q I2 rx ry q) hm
noncomputable def Zvu(t:TE):TT:=fun σ H Q=>t σ H fun x H'=>∃k,x= .bl k∧Q k H'
theorem Zss{op:CmpOp}{r:R2}(ho:OpR X (compareOp op) r)(ha:PE X a ta)(hb:PE X b tb)(hm:behindInMarks op b=false):PT X (.Compare a [op] [b] pos) (Zvu (tOp r ta tb)):=by
 intro pins s σ H Q I h
 refine wpAny_isTrue_Compare1 (thn (ha pins s σ H _ I h) fun v s1 ⟨x,H1,I1,r1,q1⟩=>thn (hb pins s1 σ H1 _ I1 q1) fun u s2 ⟨y,H2,I2,r2,q2⟩=>
  thn (ho pins s2 σ H2 x y v u _ I2 r1 r2 q2) fun c s3 ⟨z,H3,I3,r3,k,e,q3⟩=>?_) hm
 subst e
 cases r3
 exact wpAny_truthy_bool ⟨H3,I3,q3⟩
noncomputable def Zrn(r r':R2)(ta tb tc:TE):TE:=fun σ H Q=>ta σ H fun x H1=>tb σ H1 fun y H2=>r x y H2 fun z H3=>∃k,z= .bl k∧
 (if k=true then tc σ H3 fun w' H4=>r' y w' H4 Q else Q (.bl false) H3)
theorem Zpq{op op':CmpOp}{r r':R2}(ho:OpR X (compareOp op) r)(ho':OpR X (compareOp op') r')(ha:PE X a ta)(hb:PE X b tb)(hc:PE X c tc)
  (hm:lastMarks [op,op'] [b,c]=false:=by with_unfolding_all rfl):PE X (.Compare a [op,op'] [b,c] pos) (Zrn r r' ta tb tc):=by
 intro pins s σ H Q I h
 refine Compare_chain (thn (ha pins s σ H _ I h) fun v s1 ⟨x,H1,I1,r1,q1⟩=>chain_link (thn (hb pins s1 σ H1 _ I1 q1) fun u s2 ⟨y,H2,I2,r2,q2⟩=>
  thn (ho pins s2 σ H2 x y v u _ I2 r1 r2 q2) fun d s3 ⟨z,H3,I3,r3,k,e,q3⟩=>?_)) hm
 subst e
 cases r3
 refine wpAny_truthy_bool ?_
 cases k with
 |false=>exact ite_ff ⟨.bl false,H3,I3,rfl,q3⟩
 |true=>exact ite_tt (chain_last (thn (hc pins s3 σ H3 _ I3 q3) fun w' s4 ⟨z',H4,I4,r4,q4⟩=>ho' pins s4 σ H4 y z' u w' Q I4 r2 r4 q4))
noncomputable def TruV(K:PySem.W.Frag)(x:V)(H:Hp)(k:Bool):Prop:=
 match x with
 | .non=>k=false
 | .bl b=>k=b
 | .int i=>k=(i !=0)
 | .str y=>y.length≤sizeLine∧k=((y.length:Int) !=0)
 | .byt y=>y.size≤sizeLine∧k=((y.size:Int) !=0)
 | .ref p=>(∃xs,SqL K H p xs∧k= !xs.isEmpty)∨(∃xs,SqT K H p xs∧k= !xs.isEmpty)∨∃kvs,HK H p kvs∧k= !kvs.isEmpty
 |_=>False
theorem Zgn:(sizeLine:Nat)<2^63:=by rw[sizeLine_eq];decide
theorem Zk8:OpR X (binaryOp .Add) (fun x y H Q=>∃i j,x= .str i∧y= .str j∧i.length+j.length≤sizeLine∧Q (.str (i++j)) H):=by
 intro pins s σ H x y v u Q I rx ry h
 obtain⟨i,j,rfl,rfl,hz,q⟩:=h
 obtain⟨t,rfl⟩:=rx
 obtain⟨t',rfl⟩:=ry
 exact add_str (fun t' tk=>⟨.str (i++j),H,I.tok _,⟨_,rfl⟩,q⟩) hz
noncomputable def Zyu(b:Expr):Prop:=∀o i,subscripted b false o i=operate [o,i] (getItem o i)
theorem Zcv{x:V}{us:List Value}(r:Vals [x] us):∃u,us=[u]∧RelV x u:=by
 cases r with
 |cons r1 r2=>cases r2;exact⟨_,rfl,r1⟩
theorem Zvv{x y:V}{us:List Value}(r:Vals [x,y] us):∃u w',us=[u,w']∧RelV x u∧RelV y w':=by
 cases r with
 |cons r1 r2=>
  cases r2 with
  |cons r3 r4=>cases r4;exact⟨_,_,rfl,r1,r3⟩
theorem Zmf:Zcu X (.type "int") (fun xs H Q=>(∃i,xs=[.int i]∧Q (.int i) H)∨∃k,xs=[.bl k]∧Q (.int (if k then 1 else 0)) H):=by
 intro pins s σ H xs us Q I r h
 rcases h with⟨i,rfl,q⟩|⟨k,rfl,q⟩
 ·obtain⟨u,rfl,t,rfl⟩:=Zcv r
  exact call_int_int ⟨.int i,H,I,⟨_,rfl⟩,q⟩
 ·obtain⟨u,rfl,r1⟩:=Zcv r
  cases r1
  exact call_int_bool ⟨.int (if k then 1 else 0),H,I.tok _,⟨_,rfl⟩,q⟩
noncomputable def LenV(K:PySem.W.Frag)(x:V)(H:Hp)(n:Nat):Prop:=
 match x with
 | .str y=>y.length≤sizeLine∧n=y.length
 | .byt y=>y.size≤sizeLine∧n=y.size
 | .ref p=>(∃xs,SqL K H p xs∧n=xs.length)∨∃xs,SqT K H p xs∧n=xs.length
 |_=>False
end
end L2
namespace L2
open PySem PySem.Spec PyProof.Rows
structure ObjM(h:Heap)(x dx C:Addr)(mA:Str→Option Value):Prop where
 obj:h.get? x=some (PySem.W.instObj C dx)
 ns:h.Ns1 dx mA
 ne:dx≠x
section
variable{prog:Program}{w:World}{A:Around}{E:Value→Shared→Prop}{s:Shared}{K:PySem.W.Frag}{x dx C f:Addr}{mA:Str→Option Value}{name:Str}{v:Value}
end
noncomputable def putF(f:Str)(v:V):List (Str×V)→List (Str×V)
  | []=>[(f,v)]
  | (g,x)::r=>if g=f then(g,v)::r else(g,x)::putF f v r
theorem RelO.some_of{v:V}{o:Option Value}(r:RelO (some v) o):∃u,o=some u∧RelV v u:=by
 cases o with
 |none=>exact(show False from r).elim
 |some u=>exact⟨u,rfl,r⟩
section
variable{P:Program}{w:World}{H H':Hp}{h h':Heap}{a C dx:Addr}{fs fs':List (Str×V)}
end
structure Cls(K:PySem.W.Frag)(C:Addr):Prop where
 pg:PySem.W.plainGet K C Str.empty=true
 hd:PySem.W.hasDictIn K C=true
 po:PySem.W.plainOver K C=true
 sa:PySem.W.findIn K (.ref C) "__setattr__"=some (some (.builtin "object.__setattr__"))
noncomputable def Zmg(K:PySem.W.Frag)(C:Addr)(f:Str):Prop:=PySem.W.findIn K (.ref C) f=some none
structure Con(K:PySem.W.Frag)(C:Addr)(f:Str)(v:V)(u:Value):Prop where
 at_:PySem.W.findIn K (.ref C) f=some (some u)
 rel:RelV v u
 get:PySem.W.specialIn K u "__get__"=some none
 cp:PySem.W.copiedNames.contains f=false
structure Meth(K:PySem.W.Frag)(C:Addr)(m:Str)(f:Addr):Prop where
 at_:PySem.W.findIn K (.ref C) m=some (some (.ref f))
 fn:PySem.W.isFn K (.ref f)=true
 kp:PySem.W.keepIn K (.ref f)=true
section
variable{X:Cx}{pins:List (Addr×Obj)}{σ:St}{H:Hp}{s:Shared}{a C dx:Addr}{fs:List (Str×V)}{f:Str}{v:V}{A:Around}{E:Value→Shared→Prop}
end
noncomputable def tFld(K:PySem.W.Frag)(ta:TE)(f:Str):TE:=fun σ H Q=>ta σ H fun x H1=>∃a C dx fs v,x= .ref a∧H1 a=some (.ins C dx fs)∧Cls K C∧Zmg K C f∧fs.lookup f=some v∧Q v H1
noncomputable def tCon(K:PySem.W.Frag)(ta:TE)(f:Str):TE:=fun σ H Q=>ta σ H fun x H1=>∃a C dx fs v u,x= .ref a∧H1 a=some (.ins C dx fs)∧Cls K C∧Con K C f v u∧fs.lookup f=none∧Q v H1
noncomputable def sFld(K:PySem.W.Frag)(ta tv:TE)(f:Str):TS:=fun D σ H=>tv σ H fun y H1=>ta σ H1 fun x H2=>∃a C dx fs,x= .ref a∧H2 a=some (.ins C dx fs)∧Cls K C∧Zmg K C f∧fs.length<1000∧
 D.nx σ (upd H2 a (.ins C dx (putF f y fs)))
noncomputable def InOp(X:Cx)(op:Operator)(rd:V→V→Hp→VK→Prop):Prop:=
 ∀(pins:List (Addr×Obj)) (s:Shared) (σ:St) (H:Hp) (x y:V) (u v:Value) (Q:VK),Inv X pins σ H s→RelV x u→RelV y v→rd x y H Q→wpAny (model X.prog X.w) X.A (inplaceOp op u v) (EP X pins σ Q) X.xe s
noncomputable def Zzg(K:PySem.W.Frag)(ta tv:TE)(rd:V→V→Hp→VK→Prop)(f:Str):TS:=fun D σ H=>ta σ H fun x H1=>∃a C dx fs v,x= .ref a∧H1 a=some (.ins C dx fs)∧Cls K C∧Zmg K C f∧fs.lookup f=some v∧
 tv σ H1 fun y H2=>rd v y H2 fun z H3=>∃dx' fs',H3 a=some (.ins C dx' fs')∧fs'.length<1000∧D.nx σ (upd H3 a (.ins C dx' (putF f z fs')))
section
variable{X:Cx}{o e value:Expr}{f:Str}{pos pos' tpos:Pos}{ta tv:TE}
noncomputable def rAdd:V→V→Hp→VK→Prop:=fun x y H Q=>∃i j,x= .int i∧y= .int j∧Q (.int (i+j)) H
noncomputable def rSub:V→V→Hp→VK→Prop:=fun x y H Q=>∃i j,x= .int i∧y= .int j∧Q (.int (i- j)) H
end
section
variable{X:Cx}{pins:List (Addr×Obj)}{σ:St}{H:Hp}{s:Shared}{A:Around}{E:Value→Shared→Prop}{Q:Value→Shared→Prop}{c:Value}{b:Bool}
inductive TyOf(K:PySem.W.Frag)(H:Hp):V→Value→Prop where
 |non:TyOf K H .non (.type "NoneType")
 |bl (x:Bool):TyOf K H (.bl x) (.type "bool")
 |int (i:Int):TyOf K H (.int i) (.type "int")
 |str (x:Str):TyOf K H (.str x) (.type "str")
 |flt (x:UInt64):TyOf K H (.flt x) (.type "float")
 |lst {a:Addr} {xs:List V} (e:H a=some (.lst xs)):TyOf K H (.ref a) (.type "list")
 |frz {a:Addr} {o:Obj} {xs:List V} (e:H a=some (.frz o (.lst xs))):TyOf K H (.ref a) (.type "list")
 |tup {a:Addr} {xs:List V} (e:H a=some (.tup xs)):TyOf K H (.ref a) (.type "tuple")
 |dK {a:Addr} {kvs:List (Key×V)} {ep:Nat} (e:H a=some (.dK kvs ep)):TyOf K H (.ref a) (.type "dict")
 |dT {a:Addr} {kvs:List (List Key×V)} {ep:Nat} {bs:List Addr} (e:H a=some (.dT kvs ep bs)):TyOf K H (.ref a) (.type "dict")
 |ins {a C dx:Addr} {fs:List (Str×V)} (e:H a=some (.ins C dx fs)) (cl:Cls K C) (ha:PySem.W.findIn K (.ref C) "__class__"=some (some (.builtin "object.__class__")))
   (hn:PySem.W.specialIn K (.builtin "object.__class__") "__get__"=some (some (.builtin "getset_descriptor.__get__"))) (htk:PySem.W.takesIn K (.builtin "object.__class__")=some true)
   (hm:PySem.W.mroIn K C (.type "object")=some true):TyOf K H (.ref a) (.ref C)
end
end L2
namespace L2
open PySem PySem.Spec PyProof.Rows
structure Room(k:Nat)(A:Around):Prop where
 hd:A.handled=none
 dp:A.depth+3*k+5<recursionLimit
 un:A.units+16*k+200<cLine
theorem Room.mono{j k:Nat}{A:Around}(r:Room k A)(h:j≤k):Room j A:=⟨r.hd,by have:=r.dp;omega,by have:=r.un;omega⟩
theorem Room.deeper{k:Nat}{A:Around}(r:Room (k+1) A)(env:Env):Room k (A.deeper env):=
 ⟨r.hd,by have:=r.dp;show A.depth+1+3*k+5<_;omega,by have:=r.un;show A.units+3+16*k+200<_;omega⟩
theorem Room.depth{k:Nat}{A:Around}(r:Room k A):A.depth<recursionLimit:=by have:=r.dp;omega
theorem Room.units{k:Nat}{A:Around}(r:Room k A):A.units+64<cLine:=by have:=r.un;omega
noncomputable def tNil:TA:=fun _ H Q=>Q [] H
noncomputable def Zk9(ta:TE)(tr:TA):TA:=fun σ H Q=>ta σ H fun x H1=>tr σ H1 fun xs H2=>Q (x::xs) H2
section
variable{X:Cx}{e:Expr}{es:List Expr}{te:TE}{t:TA}{pos:Pos}
theorem Zdy:PA X [] tNil:=fun _ _ _ _ H Q I h=>Calls.spliced_nil ⟨[],H,I,.nil,h⟩
theorem Zba(ha:PE X e te)(hr:PA X es t)(hs:starEach (e::es) X.env=(false,eval e X.env)::starEach es X.env:=by rfl):PA X (e::es) (Zk9 te t):=by
 intro pos pins s σ H Q I h
 rw[hs]
 show wpAny _ _ (spliced ((false,eval e X.env)::backTo pos (starEach es X.env))) _ _ s
 refine Calls.spliced_cons (thn (ha pins s σ H _ I h) fun u s1 zq9=>?_)
 obtain⟨x,H1,I1,r1,q1⟩:=zq9
 exact thn (hr pos pins s1 σ H1 _ I1 q1) fun us s2 ⟨xs,H2,I2,r2,q2⟩=>⟨x::xs,H2,I2,.cons r1 r2,q2⟩
noncomputable def tTup(t:TA):TE:=fun σ H Q=>t σ H fun xs H1=>xs.length≤sizeLine∧∀p,H1 p=none→Q (.ref p) (upd H1 p (.tup xs))
noncomputable def tLst(t:TA):TE:=fun σ H Q=>t σ H fun xs H1=>xs.length≤sizeLine∧∀p,H1 p=none→Q (.ref p) (upd H1 p (.lst xs))
theorem Zvw{x1} (h:PA X es t):PE X (.Tuple es x1 pos) (tTup t):=by
 intro pins s σ H Q I hq
 refine wpAny_Tuple_spliced (thn (h pos pins s σ H _ I hq) fun us s1 ⟨xs,H1,I1,r,z,q⟩=>⟨by rw[←r.length];exact z,?_⟩)
 have hf:H1 s1.heap.objs.size=none:=I1.hok.fresh (Nat.le_refl _)
 refine⟨.ref s1.heap.objs.size,upd H1 s1.heap.objs.size (.tup xs),I1.laid (t':=s1.toks) (fun b u e=>Heap.get?_push_of_some _ e) (Nat.le_refl _) ?_,rfl,q _ hf⟩
 exact⟨z,us,r,⟨_,Heap.get?_push_size _ rfl,rfl,_,rfl⟩⟩
theorem Zvx(h:PA X es t):PE X (.List es pos) (tLst t):=by
 intro pins s σ H Q I hq
 refine wpAny_List_spliced (thn (h pos pins s σ H _ I hq) fun us s1 ⟨xs,H1,I1,r,z,q⟩=>⟨by rw[←r.length];exact z,?_⟩)
 have hf:H1 s1.heap.objs.size=none:=I1.hok.fresh (Nat.le_refl _)
 refine⟨.ref s1.heap.objs.size,upd H1 s1.heap.objs.size (.lst xs),I1.laid (t':=s1.toks) (fun b u e=>Heap.get?_push_of_some _ e) (Nat.le_refl _) ?_,rfl,q _ hf⟩
 exact⟨z,us,0,r,Heap.get?_push_size _ rfl⟩
end
noncomputable abbrev Sp:=List V→Hp→VK→XK→Prop
noncomputable abbrev CXT:=List Env→Hp→Shared→XK→Value→Shared→Prop
structure Env0(P:Program)(w:World)(K:PySem.W.Frag)(mg:Str→Option Value)(base:Heap)(A:Around)(outer:List Env)(s:Shared)(H:Hp):Prop where
 frames:A.frames=some outer
 mod:Mod K mg base
 bs:∀b o,base.get? b=some o→s.heap.get? b=some o∧H b=none
 bsz:base.objs.size≤s.heap.objs.size
 funs:s.heap.FunFrames base outer
 frf:∀b∈frs outer,H b=none
 hok:HOk P w H s.heap
 bare:AllBare s.gens
noncomputable def CE(outer:List Env)(P:Program)(w:World)(H:Hp)(s:Shared)(Q:VK)(u:Value)(s':Shared):Prop:=
 ∃v H',s'.os=s.os∧AllBare s'.gens∧Un (frs outer) [] H H' s.heap s'.heap∧HOk P w H' s'.heap∧RelV v u∧Q v H'
noncomputable def CR(CX:CXT)(outer:List Env)(P:Program)(w:World)(H:Hp)(s:Shared)(Q:VK)(E:XK)(r:Result)(s':Shared):Prop:=
 match r with
 | .ok (.ret u)=>CE outer P w H s Q u s'
 | .ok _=>False
 | .error e=>CX outer H s E e s'
structure FnOk(P:Program)(w:World)(K:PySem.W.Frag)(mg:Str→Option Value)(base:Heap)(CX:CXT)(k:Nat)(f:Addr)(fd:FuncData)(ps:List Str)(sp:Sp):Prop where
 len:∀vs H Q E,sp vs H Q E→vs.length=ps.length
 run:∀(A:Around) (outer:List Env) (s:Shared) (H:Hp) (args:Args) (us:List Value) (vs:List V) (Q:VK) (E:XK),Room k A→Env0 P w K mg base A outer s H→BindsTo s fd args (ps.zip us)→Vals vs us→sp vs H Q E→
  codeAny (model P w) A (.call (.ref f) args) (CR CX outer P w H s Q E) s
section
variable{X:Cx}{pins:List (Addr×Obj)}{σ:St}{H:Hp}{s s':Shared}
theorem Inv.env0(I:Inv X pins σ H s):Env0 X.prog X.w X.K X.mg X.base X.A X.stack s H:=
 ⟨I.ok.frames,I.ok.mod,I.bs,Nat.le_trans I.ok.bsz I.sz,I.stack,I.stkFree,I.hok,I.bare⟩
theorem Inv.after{Q:VK}{u:Value}(I:Inv X pins σ H s)(h:CE X.stack X.prog X.w H s Q u s'):EP X pins σ Q u s':=by
 obtain⟨v,H',os,bare,un,hok,r,q⟩:=h
 obtain⟨hh,g,d,t,os'⟩:=s'
 obtain rfl:os'=s.os:=os
 exact⟨v,H',I.call (h':=hh) (g':=g) (d':=d) (t':=t) (ch:=[]) un hok bare (fun b z=>absurd z (by simp)),r,q⟩
end
noncomputable def Zla(sp:Sp)(dvs:List V)(E:XK)(t:TA):TE:=fun σ H Q=>t σ H fun vs H1=>sp (vs++dvs) H1 Q E
noncomputable def Z25(C:Addr)(m:Str)(sp:Sp)(dvs:List V)(E:XK)(ta:TE)(t:TA):TE:=fun σ H Q=>ta σ H fun x H1=>∃a dx fs,x= .ref a∧H1 a=some (.ins C dx fs)∧fs.lookup m=none∧
 t σ H1 fun vs H2=>sp (x::(vs++dvs)) H2 Q E
noncomputable def Z26(C:Addr)(sp:Sp)(dvs:List V)(E:XK)(t:TA):TE:=fun σ H Q=>t σ H fun vs H1=>∀x dx,H1 x=none→H1 dx=none→dx≠x→
 sp (.ref x::(vs++dvs)) (upd (upd H1 dx (.own x)) x (.ins C dx [])) (fun v H2=>v= .non∧Q (.ref x) H2) E
noncomputable def Zax(K:PySem.W.Frag)(fd:FuncData)(ps:List Str)(ds:List Value):Prop:=
 ∀(s:Shared) (us:List Value),K.In s.heap→(us++ds).length=ps.length→BindsTo s fd ⟨us,[]⟩ (ps.zip (us++ds))
theorem Zax.all{K:PySem.W.Frag}{fd:FuncData}{ps:List Str}(h:∀us:List Value,us.length=ps.length→bindArgs fd ⟨us,[]⟩=pure (ps.zip us)):Zax K fd ps []:=fun s us _ hl=>by
 rw[List.append_nil]at hl⊢
 exact .of_eq (h us hl)
noncomputable def Zmh(CX:CXT)(X:Cx)(E:XK):Prop:=∀(pins:List (Addr×Obj)) (σ:St) (H:Hp) (s:Shared) (e:Value) (s':Shared),Inv X pins σ H s→CX X.stack H s E e s'→X.xe e s'
section
variable{X:Cx}{CX:CXT}{k:Nat}{f C:Addr}{fd:FuncData}{ps:List Str}{sp:Sp}{dvs:List V}{ds:List Value}{E:XK}{x m:Str}{p pos apos:Pos}{e o:Expr}{es:List Expr}{ta:TE}{t:TA}
theorem Zvy{pins:List (Addr×Obj)}{σ:St}{H:Hp}{s:Shared}{Q:VK}{us:List Value}{vs:List V}(F:FnOk X.prog X.w X.K X.mg X.base CX k f fd ps sp)(hr:Room k X.A)(hb:Zax X.K fd ps ds)(hd:Vals dvs ds)(hx:Zmh CX X E)
  (I:Inv X pins σ H s) (r:Vals vs us) (h:sp (vs++dvs) H Q E):wpAny (model X.prog X.w) X.A (call (.ref f) us) (EP X pins σ Q) X.xe s:=by
 have r2:Vals (vs++dvs) (us++ds):=r.append hd
 have hl:(us++ds).length=ps.length:=by rw[←r2.length];exact F.len _ _ _ _ h
 refine wpAny_call (codeAny_mono (F.run X.A X.stack s H ⟨us,[]⟩ (us++ds) (vs++dvs) Q E hr I.env0 (hb s us I.kIn hl) r2 h) fun r s' hq=>?_)
 cases r with
 |error e=>exact hx pins σ H s e s' I hq
 |ok fl=>
  cases fl with
  |ret u=>exact I.after hq
  |next=>exact False.elim hq
  |brk=>exact False.elim hq
  |cont=>exact False.elim hq
theorem Zig(F:FnOk X.prog X.w X.K X.mg X.base CX k f fd ps sp)(hr:Room k X.A)(hg:Gl X x)(hm:X.mg x=some (.ref f))(hk:PySem.W.keepIn X.K (.ref f)=true)(hb:Zax X.K fd ps ds)(hd:Vals dvs ds)(hx:Zmh CX X E)
  (ha:PA X (e::es) t) (hdb:(x==("__debug__":Str))=false:=by decide) (he:starEach (e::es) X.env=(false,eval e X.env)::starEach es X.env:=by rfl) (hpl:(backTo pos (starEach es X.env)).any (·.1)=false:=by rfl):
  PE X (.Call (.Name x p) (e::es) [] pos) (Zla sp dvs E t):=by
 intro pins s σ H Q I h
 refine wpAny_Call_Name_kw (Zl5 I hg hm ?_ hdb)
 refine PySem.W.callWith_K (h₀:=X.base) I.ok.mod.kin hk (thn (ha pos pins s σ H _ I h) fun us s1 ⟨vs,H1,I1,r,q⟩=>⟨I1.kIn,?_⟩) he hpl
 exact Zvy F hr hb hd hx I1 r q
structure Mk(K:PySem.W.Frag)(C f:Addr):Prop where
 makes:PySem.W.makesIn K C=true
 init:PySem.W.findIn K (.ref C) "__init__"=some (some (.ref f))
 fn:PySem.W.isFn K (.ref f)=true
 kp:PySem.W.keepIn K (.ref C)=true
end
noncomputable def PK(X:Cx)(kws:List Keyword)(t:TA):Prop:=
 ∀(pos:Pos) (pins:List (Addr×Obj)) (s:Shared) (σ:St) (H:Hp) (Q:List V→Hp→Prop),Inv X pins σ H s→t σ H Q→wpAny (model X.prog X.w) X.A (evalAll ((backToKw pos (keywordEach kws X.env)).map (·.2))) (AP X pins σ Q) X.xe s
section
variable{X:Cx}{CX:CXT}{k:Nat}{f C:Addr}{fd:FuncData}{ps ks:List Str}{sp:Sp}{E:XK}{x m:Str}{p pos apos kpos:Pos}{e o:Expr}{es:List Expr}{kws:List Keyword}{te ta:TE}{t tk:TA}{nm:Option Str}
structure KBinds(K:PySem.W.Frag)(fd:FuncData)(ps ks:List Str)(g:List Value→List Value→List Value)(gV:List V→List V→List V):Prop where
 to:∀(s:Shared) (us ws:List Value),K.In s.heap→(g us ws).length=ps.length→BindsTo s fd ⟨us,ks.zip ws⟩ (ps.zip (g us ws))
 rel:∀{vs:List V} {us:List Value} {zs:List V} {ws:List Value},Vals vs us→Vals zs ws→Vals (gV vs zs) (g us ws)
noncomputable def Z1r(sp:Sp)(gV:List V→List V→List V)(E:XK)(t tk:TA):TE:=fun σ H Q=>t σ H fun vs H1=>tk σ H1 fun zs H2=>sp (gV vs zs) H2 Q E
variable{g:List Value→List Value→List Value}{gV:List V→List V→List V}
end
structure FnScope(N P:List Str)(sc:Scope):Prop where
 kind:sc.kind= .function
 co:sc.isCoroutine=false
 gen:sc.isGenerator=false
 nd:N.Nodup
 pre:N.take P.length=P
 par:∀x∈P,sc.names.lookup x=some .local∨sc.names.lookup x=some .cell
 nofree:∀y∈sc.names,y.2≠.free
theorem Zgo{kindOf:Str→Option NameKind}{x:Str}:∀{binds:List (Str×Value)} {m:Str→Option Value},(∀v,(x,v)∉binds)→bindL kindOf binds m x=m x
  | [],_,_=>rfl
  | (n,v)::r,m,h=>by
    unfold bindL
    rw[Zgo fun w hw=>h w (List.mem_cons_of_mem _ hw)]
    split
    · have:x≠n:=by rintro rfl;exact h v List.mem_cons_self
      simp[this]
    · rfl
theorem Zgp{kindOf:Str→Option NameKind}{x:Str}:∀{binds:List (Str×Value)} {m:Str→Option Value},(∀v,(x,v)∉binds)→bindC kindOf binds m x=m x
  | [],_,_=>rfl
  | (n,v)::r,m,h=>by
    unfold bindC
    rw[Zgp fun w hw=>h w (List.mem_cons_of_mem _ hw)]
    split
    · rfl
    · have:x≠n:=by rintro rfl;exact h v List.mem_cons_self
      simp[this]
theorem Zgq{kindOf:Str→Option NameKind}{x:Str}{v:Value}:∀{P:List Str} {vs:List Value} {i:Nat} {m:Str→Option Value},P.Nodup→P[i]? =some x→vs[i]? =some v→kindOf x=some .local→
  bindL kindOf (P.zip vs) m x=some v
 | [],_,_,_,_,h,_,_=>by simp at h
 |_::_,[],_,_,_,_,h,_=>by simp at h
 |p::P,w::vs,0,m,nd,h1,h2,hk=>by
  simp at h1 h2;subst h1;subst h2
  show bindL kindOf ((p,w)::P.zip vs) m p=_
  unfold bindL
  rw[Zgo fun v hv=>(List.nodup_cons.mp nd).1 (List.of_mem_zip hv).1,if_pos hk]
  simp
 |p::P,w::vs,i+1,m,nd,h1,h2,hk=>by
  show bindL kindOf ((p,w)::P.zip vs) m x=_
  unfold bindL
  exact Zgq (i:=i) (List.nodup_cons.mp nd).2 (by simpa using h1) (by simpa using h2) hk
theorem Zgr{kindOf:Str→Option NameKind}{x:Str}{v:Value}:∀{P:List Str} {vs:List Value} {i:Nat} {m:Str→Option Value},P.Nodup→P[i]? =some x→vs[i]? =some v→kindOf x≠some .local→
  bindC kindOf (P.zip vs) m x=some v
 | [],_,_,_,_,h,_,_=>by simp at h
 |_::_,[],_,_,_,_,h,_=>by simp at h
 |p::P,w::vs,0,m,nd,h1,h2,hk=>by
  simp at h1 h2;subst h1;subst h2
  show bindC kindOf ((p,w)::P.zip vs) m p=_
  unfold bindC
  rw[Zgp fun v hv=>(List.nodup_cons.mp nd).1 (List.of_mem_zip hv).1,if_neg hk]
  simp
 |p::P,w::vs,i+1,m,nd,h1,h2,hk=>by
  show bindC kindOf ((p,w)::P.zip vs) m x=_
  unfold bindC
  exact Zgr (i:=i) (List.nodup_cons.mp nd).2 (by simpa using h1) (by simpa using h2) hk
noncomputable def start(N:List Str)(vs:List V):St:=vs.map some++List.replicate (N.length- vs.length) none
noncomputable def cxOf(CX:CXT)(P:Program)(w:World)(K:PySem.W.Frag)(mg:Str→Option Value)(base:Heap)(N:List Str)(qual:Str)(scope:Scope)(f:Addr)(cd:Value)(A:Around)(outer:List Env)(s:Shared)(H:Hp)(E:XK):Cx where
 prog:=P
 w:=w
 K:=K
 mg:=mg
 base:=base
 A:=A.deeper (envOfC qual scope s.heap.objs.size f cd)
 N:=N
 s₀:=s
 H₀:=H
 env:=envOfC qual scope s.heap.objs.size f cd
 outer:=outer
 stack:=envOfC qual scope s.heap.objs.size f cd::outer
 ex:=[]
 calm:=true
 fn:=fun _=>true
 pn:=[]
 xe:=fun e s'=>wpAny (model P w) (A.deeper (envOfC qual scope s.heap.objs.size f cd)) (leaving (envOfC qual scope s.heap.objs.size f cd) e) (fun _ s''=>CX outer H s E e s'') (fun e' s''=>CX outer H s E e' s'') s'
theorem Zjp{sc:Scope}{n:Nat}{x:Str}(h:sc.names.lookup x=some .cell):∃c,(cellsFrom n sc.names []).lookup x=some c:=by
 have q:=PySem.W.cellsFrom_some sc.names n [] (.inl h)
 exact Option.isSome_iff_exists.mp q
theorem Zmi{CX:CXT}{P:Program}{w:World}{K:PySem.W.Frag}{mg:Str→Option Value}{base:Heap}{N ps:List Str}{qual:Str}{scope:Scope}{f:Addr}{cd:Value}{A:Around}{outer:List Env}{s s1:Shared}{H:Hp}{E:XK}{us:List Value}{vs:List V}
  (S:FnScope N ps scope) (hd:A.handled=none) (e0:Env0 P w K mg base A outer s H) (hl:vs.length=ps.length) (r:Vals vs us)
  (x:InCallC s s.heap.objs.size (bindL (envOfC qual scope s.heap.objs.size f cd).kindOf (ps.zip us) fun _=>none) (cellsFrom (s.heap.objs.size+1) scope.names []) (bindC (envOfC qual scope s.heap.objs.size f cd).kindOf (ps.zip us) fun _=>none) s1):
  Inv (cxOf CX P w K mg base N qual scope f cd A outer s H E) [] (start N vs) H s1:=by
 have hpl:ps.length≤N.length:=by have:=congrArg List.length S.pre;rw[List.length_take]at this;omega
 obtain⟨h1,tk,rfl,hk⟩:=x.done
 have noA:∀b:Addr,b∉(cxOf CX P w K mg base N qual scope f cd A outer s H E).ex:=fun b z=>absurd (show b∈([]:List Addr)from z) (by simp)
 refine⟨⟨e0.mod,S.kind,rfl,rfl,Nat.le_refl _,fun y z c h1 h2=>?_,fun y hy=>?_,fun y c _ h=>?_,fun _=>hd,Around.frames_deeper e0.frames,.inr ⟨rfl,rfl⟩,fun b z=>absurd z (noA b),e0.bs,e0.bsz,fun b _ _=>noA b,fun b z=>absurd z (noA b),e0.funs,e0.frf⟩,
  rfl,e0.bare,Un.kept hk,⟨_,x.toInCall.ns,fun i y v h1 h2 h3=>?_⟩,fun y c h=>⟨_,x.cell y c h⟩,e0.hok.fresh (Nat.le_refl _),fun y c h=>?_,fun p hp=>absurd (show p∈([]:List (Addr×Obj))from hp) (by simp),e0.hok.kept hk,?_⟩
 ·exact name_of_addr x.apart (PySem.mem_of_lookup h1) (PySem.mem_of_lookup h2)
 ·have hy:scope.names.lookup y=some .cell∨scope.names.lookup y=some .free:=hy
  rcases hy with hy|hy
  ·exact Zjp hy
  ·exact absurd rfl (S.nofree _ (PySem.mem_of_lookup hy))
 ·exact Nat.le_of_lt (x.above y c (PySem.mem_of_lookup h))
 ·have hi:i<vs.length:=by
   unfold start at h2
   by_cases hi:i<vs.length
   ·exact hi
   ·rw[List.getElem?_append_right (by simpa using hi)]at h2
    rw[List.getElem?_replicate]at h2
    split at h2<;> cases h2
  have ha:vs[i]? =some v:=by
   unfold start at h2
   rw[List.getElem?_append_left (by simpa using hi),List.getElem?_map]at h2
   cases e:vs[i]? with
   |none=>rw[e]at h2;cases h2
   |some a=>rw[e]at h2;cases h2;rfl
  obtain⟨u,hu,rv⟩:=r.get ha
  have hp:ps[i]? =some y:=by
   rw[←S.pre,List.getElem?_take_of_lt (by omega)];exact h1
  have ndP:ps.Nodup:=by rw[←S.pre];exact S.nd.sublist (List.take_sublist _ _)
  refine⟨u,rv,?_⟩
  rcases S.par y (List.mem_of_getElem? hp)with k|k
  ·exact .inl ⟨k,Zgq ndP hp hu k⟩
  ·obtain⟨c,e⟩:=Zjp (n:=s.heap.objs.size+1) k
   refine .inr ⟨.inl k,c,e,?_⟩
   have q:=x.cell y c e
   rw[Zgr ndP hp hu (by show scope.names.lookup y≠_;rw[k];decide)]at q
   exact q
 ·exact e0.hok.fresh (Nat.le_of_lt (x.above y c (PySem.mem_of_lookup h)))
 ·unfold start
  show _=N.length
  rw[List.length_append,List.length_map,List.length_replicate]
  omega
theorem Zzh{CX:CXT}{P:Program}{w:World}{K:PySem.W.Frag}{mg:Str→Option Value}{base:Heap}{k:Nat}{f:Addr}{name qual:Str}{params:Arguments}{body:List Stmt}{scope:Scope}{dV kV doc pm cdv ct oc:Value}{an od:Option Addr}
  {osl:Array (Option Value)} {N ps:List Str} {sp:Sp} (lk:K.lookup f=some ⟨oc,od,.func (PySem.W.fnOf name qual params body scope dV kV doc pm an cdv ct),osl⟩) (hcd:PySem.W.codeIn K cdv qual=true) (S:FnScope N ps scope)
  (len:∀vs H Q E,sp vs H Q E→vs.length=ps.length)
  (hbody:∀(A:Around) (outer:List Env) (s:Shared) (H:Hp) (vs:List V) (Q:VK) (E:XK),Room k (A.deeper (envOfC qual scope s.heap.objs.size f cdv))→sp vs H Q E→
   ∃t,PSs (cxOf CX P w K mg base N qual scope f cdv A outer s H E) body t∧t {nx:=fun _ H'=>Q .non H',rt:=Q} (start N vs) H):
  FnOk P w K mg base CX (k+1) f (PySem.W.fnOf name qual params body scope dV kV doc pm an cdv ct) ps sp:=by
 refine⟨len,fun A outer s H args us vs Q E hr e0 hb r hsp=>?_⟩
 have hl:=len _ _ _ _ hsp
 have KX:K.In s.heap:=e0.mod.kin.keeps fun b o e=>(e0.bs b o e).1
 have lim:s.heap.NoLimit:=e0.mod.nolimit.keeps fun b o e=>(e0.bs b o e).1
 have hkind:∀y∈ps.zip us,scope.names.lookup y.1=some .local∨(scope.names.lookup y.1=some .cell∧((cellsFrom (s.heap.objs.size+1) scope.names []).lookup y.1).isSome=true):=fun⟨n,v⟩ hy=>by
  rcases S.par n (List.of_mem_zip hy).1 with q|q
  ·exact .inl q
  ·exact .inr ⟨q,PySem.W.cellsFrom_some _ _ _ (.inl q)⟩
 refine codeAny_call_function hr.depth (KX _ _ lk) rfl S.co S.gen rfl (PySem.W.codeRec_of KX hcd) (hb _ _ _ _ ?_)
 refine wpAny_newFunctionEnv_cells S.kind hkind fun env he s1 x=>?_
 subst he
 refine⟨lim.keeps x.toInCall.keep,codeAny_func ?_⟩
 obtain⟨t,ht,hq⟩:=hbody A outer s H vs Q E (hr.deeper _) hsp
 have I:Inv (cxOf CX P w K mg base N qual scope f cdv A outer s H E) [] (start N vs) H s1:=Zmi S hr.hd e0 hl r x
 refine wpAny_mono (ht [] s1 (start N vs) H _ I hq) (fun fl s' hs=>?_) fun e s' hs=>hs
 have fin:∀{σ':St} {H':Hp} {v:V} {u:Value},Inv (cxOf CX P w K mg base N qual scope f cdv A outer s H E) [] σ' H' s'→RelV v u→Q v H'→CE outer P w H s Q u s':=
  fun{σ' H' v u} J rv q=>⟨v,H',J.os,J.bare,J.base,J.hok,rv,q⟩
 cases fl with
 |ret u=>
  obtain⟨v,σ',H',J,rv,q⟩:=hs
  exact fin J rv q
 |next=>
  obtain⟨σ',H',J,q⟩:=hs
  exact fin (v:=V.non) (u:=Value.none) J rfl q
 |brk=>
  obtain⟨_,_,_,q⟩:=hs
  exact False.elim q
 |cont=>
  obtain⟨_,_,_,q⟩:=hs
  exact False.elim q
end L2
namespace L2
open PySem PySem.Spec PyProof.Rows
section
variable{X:Cx}{x:Str}{p pos:Pos}{e:Expr}{es:List Expr}{t:TA}{id T:String}{r:List V→Hp→VK→Prop}
noncomputable def tCB(r:List V→Hp→VK→Prop)(t:TA):TE:=fun σ H Q=>t σ H fun vs H1=>r vs H1 Q
theorem Zjq(hc:Zcu X (.builtin id) r)(hg:Gl X x)(hm:X.mg x=none)(hv:bootBuiltins x=some (.builtin id))(ha:PA X (e::es) t)(hn:x≠"__name__":=by decide)(hdb:(x==("__debug__":Str))=false:=by decide)
  (he:starEach (e::es) X.env=(false,eval e X.env)::starEach es X.env:=by rfl) (hpl:(backTo pos (starEach es X.env)).any (·.1)=false:=by rfl):PE X (.Call (.Name x p) (e::es) [] pos) (tCB r t):=by
 intro pins s σ H Q I h
 refine wpAny_Call_Name_kw (Zdw I hg hm hv ?_ hn hdb)
 exact PyProof.Rows.callWith_builtin1 (thn (ha pos pins s σ H _ I h) fun us s1 ⟨vs,H1,I1,r1,q1⟩=>hc pins s1 σ H1 vs us Q I1 r1 q1) he hpl
theorem Zmj(hc:Zcu X (.type T) r)(hg:Gl X x)(hm:X.mg x=none)(hv:bootBuiltins x=some (.type T))(ha:PA X (e::es) t)(hn:x≠"__name__":=by decide)(hdb:(x==("__debug__":Str))=false:=by decide)
  (he:starEach (e::es) X.env=(false,eval e X.env)::starEach es X.env:=by rfl) (hpl:(backTo pos (starEach es X.env)).any (·.1)=false:=by rfl):PE X (.Call (.Name x p) (e::es) [] pos) (tCB r t):=by
 intro pins s σ H Q I h
 refine wpAny_Call_Name_kw (Zdw I hg hm hv ?_ hn hdb)
 exact PyProof.Rows.callWith_type1 (thn (ha pos pins s σ H _ I h) fun us s1 ⟨vs,H1,I1,r1,q1⟩=>hc pins s1 σ H1 vs us Q I1 r1 q1) he hpl
end
end L2
namespace HT
open PySem PyProof.Rows
noncomputable def lexLt:List Int→List Int→Bool
 | [],[]=>false
 | [],_::_=>true
 |_::_,[]=>false
 |x::xs,y::ys=>if x=y then lexLt xs ys else decide (x<y)
theorem Zu4(x y:Int)(xs ys:List Int):lexLt (x::xs) (y::ys)=if x=y then lexLt xs ys else decide (x<y):=rfl
theorem Zpr:lexLt [] []=false:=rfl
theorem Zpi(y:Int)(ys:List Int):lexLt [] (y::ys)=true:=rfl
theorem Zpj(x:Int)(xs:List Int):lexLt (x::xs) []=false:=rfl
section
open PySem.SeqAt
open PySem.AutoSeq1 (wpAny_loadPart')
open PySem.MeetsSeq PySem.MeetsSeq2 PySem.MeetsSeq3
end
section
variable{prog:Program}{w:World}{A:Around}{E:Value→Shared→Prop}{s:Shared}
noncomputable def sIx(n d:Nat):Option Int→Nat
 |none=>d
 |some v=>if v<0 then(v+(n:Int)).toNat else min v.toNat n
theorem Zyv(n d:Nat):sIx n d none=d:=rfl
end
end HT
namespace L2
open PySem PySem.Spec PyProof.Rows
noncomputable abbrev TO:=St→Hp→(Option Int→Hp→Prop)→Prop
noncomputable def PO(X:Cx)(e:Option Expr)(t:TO):Prop:=
 ∀(pins:List (Addr×Obj)) (s:Shared) (σ:St) (H:Hp) (Q:Option Int→Hp→Prop),Inv X pins σ H s→t σ H Q→
  wpAny (model X.prog X.w) X.A (evalPart e X.env) (fun u s'=>∃o H',Inv X pins σ H' s'∧IsPart u o∧Q o H') X.xe s
noncomputable def Zmk:TO:=fun _ H Q=>Q none H
noncomputable def Zvz(t:TE):TO:=fun σ H Q=>t σ H fun x H1=>∃i,x= .int i∧Q (some i) H1
section
variable{X:Cx}{e:Expr}{te:TE}{lo hi:Option Expr}{tl th:TO}{pos p2:Pos}
theorem Zst:PO X none Zmk:=by
 intro pins s σ H Q I h
 rw[evalPart_none]
 exact wpAny_pure ⟨none,H,I,.none,h⟩
theorem Zsu(h:PE X e te):PO X (some e) (Zvz te):=by
 intro pins s σ H Q I hw
 rw[evalPart_some]
 refine thn (h pins s σ H _ I hw) fun u s1 zq9=>?_
 obtain⟨x,H1,I1,r1,q1⟩:=zq9
 obtain⟨i,rfl,q⟩:=q1
 obtain⟨t,rfl⟩:=r1
 exact⟨some i,H1,I1,.int i t,q⟩
noncomputable def SlR(X:Cx)(r:V→Option Int→Option Int→Hp→VK→Prop):Prop:=
 ∀(pins:List (Addr×Obj)) (s:Shared) (σ:St) (H:Hp) (x:V) (v vl vu:Value) (lo hi:Option Int) (sl:Addr) (Q:VK),Inv X pins σ H s→RelV x v→s.heap.IsSliceOf sl vl vu .none→IsPart vl lo→IsPart vu hi→r x lo hi H Q→
  ∃T id,typeLookup (.type T) "__getitem__"=pure (some (.builtin id))∧s.TypeIs v T∧wpAny (model X.prog X.w) X.A (getItem v (.ref sl)) (EP X pins σ Q) X.xe s
theorem SlR.or{r r':V→Option Int→Option Int→Hp→VK→Prop}(h:SlR X r)(h':SlR X r'):SlR X (fun x lo hi H Q=>r x lo hi H Q∨r' x lo hi H Q):=by
 intro pins s σ H x v vl vu lo hi sl Q I rx hs pl pu q
 rcases q with q|q
 ·exact h pins s σ H x v vl vu lo hi sl Q I rx hs pl pu q
 ·exact h' pins s σ H x v vl vu lo hi sl Q I rx hs pl pu q
noncomputable def tSl(r:V→Option Int→Option Int→Hp→VK→Prop)(te:TE)(tl th:TO):TE:=fun σ H Q=>te σ H fun x H1=>tl σ H1 fun l H2=>th σ H2 fun u H3=>r x l u H3 Q
theorem Zps{r:V→Option Int→Option Int→Hp→VK→Prop}(hr:SlR X r)(he:PE X e te)(hl:PO X lo tl)(hu:PO X hi th):PE X (.Subscript e (.Slice lo hi none p2) pos) (tSl r te tl th):=by
 intro pins s σ H Q I h
 refine Subscript_ (thn (he pins s σ H _ I h) fun v s1 zq9=>?_)
 obtain⟨x,H1,I1,r1,q1⟩:=zq9
 refine wpAny_Slice (thn (hl pins s1 σ H1 _ I1 q1) fun vl s2 ⟨l,H2,I2,pl,q2⟩=>thn (hu pins s2 σ H2 _ I2 q2) fun vu s3 zq9=>?_)
 obtain⟨u,H3,I3,pu,q3⟩:=zq9
 rw[evalPart_none]
 refine wpAny_pure ?_
 have I4:Inv X pins σ H3 {s3 with heap:=s3.heap.push {cls:=.type "slice",data:=.fields #[vl,vu,.none]}}:=I3.kept (t':=s3.toks) fun b ob q=>Heap.get?_push_of_some _ q
 obtain⟨T,id,hT,ht,hg⟩:=hr pins {s3 with heap:=s3.heap.push {cls:=.type "slice",data:=.fields #[vl,vu,.none]}} σ H3 x v vl vu l u s3.heap.objs.size Q I4 r1 (Heap.IsSliceOf.new ..) pl pu q3
 show wpAny (model X.prog X.w) X.A (subscriptTail e (.Slice lo hi none p2) v (.ref s3.heap.objs.size)) (EP X pins σ Q) X.xe {s3 with heap:=s3.heap.push {cls:=.type "slice",data:=.fields #[vl,vu,.none]}}
 exact tail_any (ops:=[.ref s3.heap.objs.size,v]) ht hT hg (by with_unfolding_all rfl)
noncomputable def cutV(xs:List V)(lo hi:Option Int):List V:=(xs.drop (HT.sIx xs.length 0 lo)).take (HT.sIx xs.length xs.length hi- HT.sIx xs.length 0 lo)
theorem Zih(xs:List V)(lo hi:Option Int):(cutV xs lo hi).length≤xs.length:=by
 unfold cutV
 rw[List.length_take,List.length_drop]
 omega
noncomputable def rSlT(K:PySem.W.Frag):V→Option Int→Option Int→Hp→VK→Prop:=fun x lo hi H Q=>∃a xs,x= .ref a∧SqT K H a xs∧
 ¬(HT.sIx xs.length 0 lo=0∧HT.sIx xs.length xs.length hi=xs.length)∧∀p,H p=none→Q (.ref p) (upd H p (.tup (cutV xs lo hi)))
noncomputable def rLtT(K:PySem.W.Frag):R2:=fun x y H Q=>∃a b ns ms,x= .ref a∧y= .ref b∧SqT K H a (ns.map V.int)∧SqT K H b (ms.map V.int)∧Q (.bl (HT.lexLt ns ms)) H
noncomputable def Z27(K:PySem.W.Frag):R2:=fun x y H Q=>∃a b xs ys,x= .ref a∧y= .ref b∧SqT K H a xs∧SqT K H b ys∧xs≠[]∧xs.length+ys.length≤sizeLine∧
 (ys=[]→Q (.ref a) H)∧(ys≠[]→∀p,H p=none→Q (.ref p) (upd H p (.tup (xs++ys))))
end
end L2
namespace L2
open PySem PySem.Spec PyProof.Rows
noncomputable def ixN(n:Nat)(i:Int):Option Nat:=if 0≤i then(if i<n then some i.toNat else none)else if-(n:Int)≤i then some (i+n).toNat else none
noncomputable def atI{α:Type}(xs:List α)(i:Int):Option α:=(ixN xs.length i).bind fun j=>xs[j]?
theorem Zsv{n:Nat}{i:Int}{j:Nat}(h:ixN n i=some j):seqIndex? i n=some j∧j<n∧-(n:Int)≤i∧i<n:=by
 unfold ixN at h
 by_cases h0:0≤i
 ·rw[if_pos h0]at h
  by_cases h1:i<n
  ·rw[if_pos h1]at h
   have e:i.toNat=j:=Option.some.inj h
   exact⟨by rw[seqIndex_of h0 h1,e],by omega,by omega,h1⟩
  ·rw[if_neg h1]at h;cases h
 ·rw[if_neg h0]at h
  by_cases h1:-(n:Int)≤i
  ·rw[if_pos h1]at h
   have e:(i+n).toNat=j:=Option.some.inj h
   exact⟨by rw[seqIndex_neg (by omega) h1,e],by omega,h1,by omega⟩
  ·rw[if_neg h1]at h;cases h
theorem Zii{α:Type}{xs:List α}{i:Int}{v:α}(h:atI xs i=some v):∃j,seqIndex? i xs.length=some j∧xs[j]? =some v∧j<xs.length∧-(xs.length:Int)≤i∧i<xs.length:=by
 unfold atI at h
 cases e:ixN xs.length i with
 |none=>rw[e]at h;cases h
 |some j=>
  rw[e]at h
  obtain⟨h1,h2,h3,h4⟩:=Zsv e
  exact⟨j,h1,h,h2,h3,h4⟩
noncomputable def Zml(b:Expr):Prop:=∀o i,subscripted b false o i=operate [o,i] (getItem o i)
noncomputable def IxR(X:Cx)(r:R2):Prop:=
 ∀(value slice:Expr) (pins:List (Addr×Obj)) (s:Shared) (σ:St) (H:Hp) (x y:V) (v u:Value) (Q:VK),Inv X pins σ H s→RelV x v→RelV y u→r x y H Q→
  subscripted slice false v u=operate [v,u] (getItem v u)→wpAny (model X.prog X.w) X.A (subscriptTail value slice v u) (EP X pins σ Q) X.xe s
noncomputable def MtR(X:Cx)(id:String)(r:V→List V→Hp→VK→Prop):Prop:=
 ∀(pins:List (Addr×Obj)) (s:Shared) (σ:St) (H:Hp) (x:V) (xs:List V) (v:Value) (us:List Value) (Q:VK),Inv X pins σ H s→RelV x v→Vals xs us→r x xs H Q→
  wpAny (model X.prog X.w) X.A (call (.builtin id) (v::us)) (EP X pins σ Q) X.xe s
section
variable{X:Cx}{a b:Expr}{ta tb:TE}{pos:Pos}
theorem IxR.or{r r':R2}(h:IxR X r)(h':IxR X r'):IxR X (fun x y H Q=>r x y H Q∨r' x y H Q):=by
 intro value slice pins s σ H x y v u Q I rx ry q hs
 rcases q with q|q
 ·exact h value slice pins s σ H x y v u Q I rx ry q hs
 ·exact h' value slice pins s σ H x y v u Q I rx ry q hs
theorem Zv0{r:R2}(hr:IxR X r)(ha:PE X a ta)(hb:PE X b tb)(hs:Zml b):PE X (.Subscript a b pos) (tOp r ta tb):=by
 intro pins s σ H Q I h
 exact Subscript_ (binT ha hb I h fun v u s2 x y H2 I2 rx ry q=>hr a b pins s2 σ H2 x y v u Q I2 rx ry q (hs _ _))
noncomputable def rIxL(K:PySem.W.Frag):R2:=fun x y H Q=>∃p xs i v,x= .ref p∧y= .int i∧SqL K H p xs∧atI xs i=some v∧Q v H
noncomputable def rIxT(K:PySem.W.Frag):R2:=fun x y H Q=>∃p xs i v,x= .ref p∧y= .int i∧SqT K H p xs∧atI xs i=some v∧Q v H
noncomputable def rIxS:R2:=fun x y H Q=>∃z i c,x= .str z∧y= .int i∧z.length≤sizeLine∧atI z.cps.toList i=some c∧Q (.str ⟨#[c]⟩) H
theorem Zsw:IxR X (rIxL X.K):=by
 intro value slice pins s σ H x y v u Q I rx ry h hs
 obtain⟨p,xs,i,z,rfl,rfl,hq,he,q⟩:=h
 cases rx
 obtain⟨t,rfl⟩:=ry
 obtain⟨its,r,pl,hz⟩:=I.list hq
 obtain⟨j,h1,h2,h3,h4,h5⟩:=Zii he
 obtain⟨w,ew,rw'⟩:=r.get h2
 have hl:=r.length
 have hn:=Zgn
 have fin:EP X pins σ Q w s:=⟨z,H,I,rw',q⟩
 by_cases h0:0≤i
 ·have hj:i.toNat=j:=by
   rw[seqIndex_of h0 h5]at h1
   exact Option.some.inj h1
  exact item_listR pl.isList h0 (by omega) (by rw[hj];simpa using ew) fin hs
 ·have hj:(i+(its.toArray.size:Int)).toNat=j:=by
   rw[seqIndex_neg (by omega) h4]at h1
   rw[List.size_toArray,←hl]
   exact Option.some.inj h1
  exact subscriptTail_builtinR (x:=w) pl.isList.typeIs slot_list_getitem.lookup
   (wpAny_getItem_list_neg (Q:=fun r s'=>r=w∧EP X pins σ Q r s') pl.isList (by omega) (by rw[List.size_toArray]<;> omega) (by omega) (by rw[hj];simpa using ew) ⟨rfl,fin⟩) hs
theorem Zv1:IxR X (rIxT X.K):=by
 intro value slice pins s σ H x y v u Q I rx ry h hs
 obtain⟨p,xs,i,z,rfl,rfl,hq,he,q⟩:=h
 cases rx
 obtain⟨t,rfl⟩:=ry
 obtain⟨its,r,pl,hz⟩:=I.tuple hq
 obtain⟨j,h1,h2,h3,h4,h5⟩:=Zii he
 obtain⟨w,ew,rw'⟩:=r.get h2
 have hl:=r.length
 have hn:=Zgn
 have fin:EP X pins σ Q w s:=⟨z,H,I,rw',q⟩
 exact subscriptTail_builtinR (x:=w) pl.typeIs slot_tuple_getitem.lookup
  (getItem_tuple (j:=j) (Q:=fun r s'=>r=w∧EP X pins σ Q r s') pl (by omega) (by omega) (by rw[List.size_toArray,←hl];exact h1) (by simpa using ew) ⟨rfl,fin⟩) hs
theorem Zv2:IxR X rIxS:=by
 intro value slice pins s σ H x y v u Q I rx ry h hs
 obtain⟨z,i,c,rfl,rfl,hz,he,q⟩:=h
 obtain⟨t,rfl⟩:=rx
 obtain⟨t',rfl⟩:=ry
 obtain⟨j,h1,h2,h3,h4,h5⟩:=Zii he
 have hl:z.cps.toList.length=z.length:=by simp[Str.length]
 rw[hl]at h1 h4 h5
 have hn:=Zgn
 exact tail_any (typeIs_str s z t) slot_str_getitem.lookup (getItem_str (c:=c) (by
  have e1:decide (i< -(2^63:Int))=false:=decide_eq_false (by omega)
  have e2:decide (i≥2^63)=false:=decide_eq_false (by omega)
  rw[e1,e2,Bool.or_false]) (by rw[h1];simpa using h2) ⟨.str ⟨#[c]⟩,H,I.tok _,⟨_,rfl⟩,q⟩) hs
noncomputable def rIx(K:PySem.W.Frag):R2:=fun x y H Q=>rIxL K x y H Q∨rIxT K x y H Q∨rIxS x y H Q
theorem Zro:IxR X (rIx X.K):=Zsw.or (Zv1.or Zv2)
noncomputable def Z28:V→V→V→Hp→(Hp→Prop)→Prop:=fun o i v H Q=>∃p xs k j,o= .ref p∧i= .int k∧H p=some (.lst xs)∧ixN xs.length k=some j∧Q (upd H p (.lst (xs.set j v)))
theorem Zgs(lo hi:Option Int)(n:Nat):(sliceBounds lo hi none n).1=((HT.sIx n 0 lo:Nat):Int)∧(sliceBounds lo hi none n).2.1=((HT.sIx n n hi:Nat):Int)∧(sliceBounds lo hi none n).2.2=1:=by
 refine⟨?_,?_,rfl⟩
 ·cases lo with
  |none=>simp[sliceBounds,HT.sIx]
  |some i=>
   simp only[sliceBounds,HT.sIx,Option.getD_none,show(1:Int) > 0 by decide,if_true]
   by_cases h:i<0
   ·simp only[h,if_true]<;> omega
   ·simp only[h,if_false]<;> omega
 ·cases hi with
  |none=>simp[sliceBounds,HT.sIx]
  |some i=>
   simp only[sliceBounds,HT.sIx,Option.getD_none,show(1:Int) > 0 by decide,if_true]
   by_cases h:i<0
   ·simp only[h,if_true]<;> omega
   ·simp only[h,if_false]<;> omega
theorem Zfl(its:List Value)(lo hi:Option Int):slicePick its.toArray lo hi none=((its.drop (HT.sIx its.length 0 lo)).take (HT.sIx its.length its.length hi- HT.sIx its.length 0 lo)).toArray:=by
 obtain⟨h1,h2,h3⟩:=Zgs lo hi its.toArray.size
 unfold slicePick
 rw[h1,h2,h3]
 simp only[sliceRange_one,pick_run,List.size_toArray]<;> rfl
noncomputable def rSlL(K:PySem.W.Frag):V→Option Int→Option Int→Hp→VK→Prop:=fun x lo hi H Q=>∃a xs,x= .ref a∧SqL K H a xs∧∀p,H p=none→Q (.ref p) (upd H p (.lst (cutV xs lo hi)))
theorem Zsx:SlR X (rSlL X.K):=by
 intro pins s σ H x v vl vu lo hi sl Q I rx hs pl pu h
 obtain⟨a,xs,rfl,hx,q⟩:=h
 cases rx
 obtain⟨its,r,ht,hz⟩:=I.list hx
 have hlen:=r.length
 refine⟨"list",_,slot_list_getitem.lookup,ht.isList.typeIs,?_⟩
 refine wpAny_getItem_list_slice ht.isList hs pl pu .none (by simp) ?_ (by rw[List.size_toArray]<;> omega)
 rw[Zfl,←hlen]
 refine⟨.ref s.heap.objs.size,_,I.laid (t':=s.toks) (o:=.lst (cutV xs lo hi)) (fun b ob q=>Heap.get?_push_of_some _ q) (Nat.le_refl _) ?_,rfl,q _ (I.hok.fresh (Nat.le_refl _))⟩
 exact⟨Nat.le_trans (Zih xs lo hi) hz,_,0,(r.drop (HT.sIx xs.length 0 lo)).take (HT.sIx xs.length xs.length hi- HT.sIx xs.length 0 lo),Heap.get?_push_size _ rfl⟩
noncomputable def Z7:V→Bool
 | .non=>true
 | .bl _=>true
 | .int _=>true
 | .str _=>true
 |_=>false
noncomputable def eqV:V→V→Bool
 | .non,.non=>true
 | .bl a,.bl b=>a==b
 | .bl a,.int b=>(if a then 1 else 0)==b
 | .int a,.bl b=>a==(if b then 1 else 0)
 | .int a,.int b=>a==b
 | .str a,.str b=>a==b
 |_,_=>false
theorem Zrp{A:Around}{s:Shared}{y x:V}{u v:Value}(ry:RelV y u)(rx:RelV x v)(fy:Z7 y=true)(fx:Z7 x=true):SeqAt.EqAt A s u v (eqV y x):=by
 cases y with
 |non=>
  cases ry
  cases x with
  |non=>cases rx;exact SeqAt.EqAt.same _
  |bl b=>cases rx;exact SeqAt.EqAt.none_bool b
  |int b=>obtain⟨t,rfl⟩:=rx;exact SeqAt.EqAt.none_int b t
  |str b=>obtain⟨t,rfl⟩:=rx;exact SeqAt.EqAt.none_str b t
  |_=>exact absurd (show false=true from fx) Bool.false_ne_true
 |bl a=>
  cases ry
  cases x with
  |non=>cases rx;exact SeqAt.EqAt.bool_none a
  |bl b=>cases rx;exact SeqAt.EqAt.bool_bool a b
  |int b=>obtain⟨t,rfl⟩:=rx;exact SeqAt.EqAt.bool_int a b t
  |str b=>obtain⟨t,rfl⟩:=rx;exact SeqAt.EqAt.bool_str a b t
  |_=>exact absurd (show false=true from fx) Bool.false_ne_true
 |int a=>
  obtain⟨t',rfl⟩:=ry
  cases x with
  |non=>cases rx;exact SeqAt.EqAt.int_none a t'
  |bl b=>cases rx;exact SeqAt.EqAt.int_bool a t' b
  |int b=>obtain⟨t,rfl⟩:=rx;exact SeqAt.EqAt.int_int a t' b t
  |str b=>obtain⟨t,rfl⟩:=rx;exact SeqAt.EqAt.int_str a t' b t
  |_=>exact absurd (show false=true from fx) Bool.false_ne_true
 |str a=>
  obtain⟨t',rfl⟩:=ry
  cases x with
  |non=>cases rx;exact SeqAt.EqAt.str_none a t'
  |bl b=>cases rx;exact SeqAt.EqAt.str_bool a t' b
  |int b=>obtain⟨t,rfl⟩:=rx;exact SeqAt.EqAt.str_int a t' b t
  |str b=>obtain⟨t,rfl⟩:=rx;exact SeqAt.EqAt.str_str a t' b t
  |_=>exact absurd (show false=true from fx) Bool.false_ne_true
 |_=>exact absurd (show false=true from fy) Bool.false_ne_true
noncomputable def eqU(x:V)(u:Value):Bool:=match u with
 | .none=>eqV .non x
 | .bool b=>eqV (.bl b) x
 | .int i _=>eqV (.int i) x
 | .str z _=>eqV (.str z) x
 |_=>false
theorem Zrq{x y:V}{u:Value}(r:RelV y u)(f:Z7 y=true):eqU x u=eqV y x:=by
 cases y with
 |non=>cases r;rfl
 |bl b=>cases r;rfl
 |int i=>obtain⟨t,rfl⟩:=r;rfl
 |str z=>obtain⟨t,rfl⟩:=r;rfl
 |_=>exact absurd (show false=true from f) Bool.false_ne_true
theorem Zdz{x:V}:∀{xs:List V} {us:List Value},Vals xs us→xs.all Z7=true→us.any (eqU x)=xs.any fun y=>eqV y x
 |_,_,.nil,_=>rfl
 |y::xs,u::us,.cons r t,f=>by
  rw[List.all_cons,Bool.and_eq_true]at f
  rw[List.any_cons,List.any_cons,Zrq r f.1,Zdz t f.2]
theorem Zcw{A:Around}{s:Shared}{x:V}{v:Value}(rx:RelV x v)(fx:Z7 x=true):∀{xs:List V} {us:List Value},Vals xs us→xs.all Z7=true→∀u∈us,SeqAt.EqAt A s u v (eqU x u)
 |_,_,.nil,_=>fun u hu=>by cases hu
 |y::xs,u::us,.cons r t,f=>fun u' hu=>by
  rw[List.all_cons,Bool.and_eq_true]at f
  rcases List.mem_cons.mp hu with rfl|hu
  ·rw[Zrq r f.1];exact Zrp r rx f.1 fx
  ·exact Zcw rx fx t f.2 u' hu
noncomputable def inV(x:V)(xs:List V):Bool:=xs.any fun y=>eqV y x
noncomputable def rIn(K:PySem.W.Frag)(neg:Bool):R2:=fun x y H Q=>∃p xs,y= .ref p∧(SqL K H p xs∨SqT K H p xs)∧Z7 x=true∧xs.all Z7=true∧Q (.bl (if neg then !inV x xs else inV x xs)) H
theorem Zgt:OpR X (compareOp .In) (rIn X.K false):=by
 intro pins s σ H x y v u Q I rx ry h
 obtain⟨p,xs,rfl,hq,fx,fs,q⟩:=h
 cases ry
 rcases hq with hq|hq
 ·obtain⟨its,r,pl,hz⟩:=I.list hq
  refine SeqAt.in_listAt (eqU x) pl.isList (fun w hw=>Zcw rx fx r fs w (by simpa using hw)) ⟨.bl _,H,I,rfl,?_⟩
  rw[show its.toArray.any (eqU x)=its.any (eqU x) by simp,Zdz r fs]
  exact q
 ·obtain⟨its,r,pl,hz⟩:=I.tuple hq
  refine SeqAt.in_tupleAt (eqU x) pl (fun w hw=>Zcw rx fx r fs w (by simpa using hw)) ⟨.bl _,H,I,rfl,?_⟩
  rw[show its.toArray.any (eqU x)=its.any (eqU x) by simp,Zdz r fs]
  exact q
theorem Zgu:OpR X (compareOp .NotIn) (rIn X.K true):=by
 intro pins s σ H x y v u Q I rx ry h
 obtain⟨p,xs,rfl,hq,fx,fs,q⟩:=h
 cases ry
 rcases hq with hq|hq
 ·obtain⟨its,r,pl,hz⟩:=I.list hq
  refine SeqAt.notIn_listAt (eqU x) pl.isList (fun w hw=>Zcw rx fx r fs w (by simpa using hw)) ⟨.bl _,H,I,rfl,?_⟩
  rw[show its.toArray.any (eqU x)=its.any (eqU x) by simp,Zdz r fs]
  exact q
 ·obtain⟨its,r,pl,hz⟩:=I.tuple hq
  refine SeqAt.notIn_tupleAt (eqU x) pl (fun w hw=>Zcw rx fx r fs w (by simpa using hw)) ⟨.bl _,H,I,rfl,?_⟩
  rw[show its.toArray.any (eqU x)=its.any (eqU x) by simp,Zdz r fs]
  exact q
theorem Zgv:OpR X (compareOp .NotIn) (fun x y H Q=>∃i j,x= .str i∧y= .str j∧Q (.bl (!(!(Builtin.Str.occurrences j i 0 j.length 1).isEmpty))) H):=by
 intro pins s σ H x y v u Q I rx ry h
 obtain⟨i,j,rfl,rfl,q⟩:=h
 obtain⟨t,rfl⟩:=rx
 obtain⟨t',rfl⟩:=ry
 exact notIn_str ⟨.bl _,H,I,rfl,q⟩
theorem Zgw:Zcu X (.builtin "len") (fun xs H Q=>∃p ys,xs=[.ref p]∧(SqL X.K H p ys∨SqT X.K H p ys)∧Q (.int ys.length) H):=by
 intro pins s σ H xs us Q I r h
 obtain⟨p,ys,rfl,hq,q⟩:=h
 obtain⟨u,rfl,rx⟩:=Zcv r
 cases rx
 have hn:=Zgn
 rcases hq with hq|hq
 ·obtain⟨its,r',pl,hz⟩:=I.list hq
  have hlen:=r'.length
  exact Calls.call_len_list pl.isList (by simp only[List.size_toArray]<;> omega) ⟨.int ys.length,H,I.tok _,⟨s.toks+1,by rw[List.size_toArray,hlen]⟩,q⟩
 ·obtain⟨its,r',pl,hz⟩:=I.tuple hq
  have hlen:=r'.length
  exact len_tuple pl (by simp only[List.size_toArray]<;> omega) ⟨.int ys.length,H,I.tok _,⟨s.toks+1,by rw[List.size_toArray,hlen]⟩,q⟩
theorem Zgx:Zcu X (.builtin "len") (fun xs H Q=>∃z,xs=[.str z]∧z.length≤sizeLine∧Q (.int z.length) H):=by
 intro pins s σ H xs us Q I r h
 obtain⟨z,rfl,hz,q⟩:=h
 obtain⟨u,rfl,t,rfl⟩:=Zcv r
 have hn:=Zgn
 exact len_str (by omega) ⟨.int z.length,H,I.tok _,⟨_,rfl⟩,q⟩
theorem Zcu.or{f:Value}{r r':List V→Hp→VK→Prop}(h:Zcu X f r)(h':Zcu X f r'):Zcu X f (fun xs H Q=>r xs H Q∨r' xs H Q):=by
 intro pins s σ H xs us Q I rs q
 rcases q with q|q
 ·exact h pins s σ H xs us Q I rs q
 ·exact h' pins s σ H xs us Q I rs q
noncomputable def tyV(K:PySem.W.Frag)(T:String)(x:V)(H:Hp):Prop:=match x with
 | .str _=>T="str"
 | .int _=>T="int"
 | .ref p=>(T="list"∧∃xs,SqL K H p xs)∨(T="tuple"∧∃o,K.lookup p=some o∧o.cls= .type "tuple"∧o.dict=none)∨
   (T="dict"∧((∃kvs,HK H p kvs)∨∃kvs,HTt H p kvs))∨(T="set"∧∃S n,H p=some (.set S n))
 |_=>False
theorem Zv3{pins:List (Addr×Obj)}{σ:St}{H:Hp}{s:Shared}{T:String}{x:V}{v:Value}(I:Inv X pins σ H s)(r:RelV x v)(ty:tyV X.K T x H):
  s.TypeIs v T∧∀a,v= .ref a→∃ob,s.heap.get? a=some ob∧ob.dict=none:=by
 cases x with
 |str z=>
  obtain⟨t,rfl⟩:=r
  cases(show T="str"from ty)
  exact⟨typeIs_str s z t,fun _ e=>nomatch e⟩
 |int i=>
  obtain⟨t,rfl⟩:=r
  cases(show T="int"from ty)
  exact⟨typeIs_int s i t,fun _ e=>nomatch e⟩
 |ref p=>
  cases r
  rcases ty with⟨rfl,xs,hq⟩|⟨rfl,o,hk,hc,hd⟩|⟨rfl,hk⟩|⟨rfl,S,n,hk⟩
  ·obtain⟨its,_,pl,_⟩:=I.list hq
   refine⟨pl.isList.typeIs,fun a e=>?_⟩
   cases e
   obtain⟨o,n,e,c,hd,_⟩:=pl
   exact⟨o,e,hd⟩
  ·refine⟨⟨o,I.kIn p o hk,hc⟩,fun a e=>?_⟩
   cases e
   exact⟨o,I.kIn _ o hk,hd⟩
  ·have z:∃o,s.heap.get? p=some o∧o.ExactDict:=by
    rcases hk with⟨kvs,ep,hk⟩|⟨kvs,ep,bs,hk⟩
    ·obtain⟨_,_,_,_,o,_,e,ex,_⟩:=I.hok p _ hk
     exact⟨o,e,ex⟩
    ·obtain⟨_,_,_,_,o,_,e,ex,_⟩:=I.hok p _ hk
     exact⟨o,e,ex⟩
   obtain⟨o,e,ex⟩:=z
   refine⟨⟨o,e,ex.1⟩,fun a e2=>?_⟩
   cases e2
   exact⟨o,e,ex.2.1⟩
  ·obtain⟨o,_,_,_,e,ex,_⟩:=I.hok p _ hk
   refine⟨⟨o,e,ex.1⟩,fun a e2=>?_⟩
   cases e2
   exact⟨o,e,ex.2.1⟩
 |_=>exact False.elim ty
noncomputable def tBM0(K:PySem.W.Frag)(T:String)(r:V→List V→Hp→VK→Prop)(to:TE):TE:=fun σ H Q=>to σ H fun x H1=>tyV K T x H1∧r x [] H1 Q
noncomputable def tBM(K:PySem.W.Frag)(T:String)(r:V→List V→Hp→VK→Prop)(to:TE)(t:TA):TE:=fun σ H Q=>to σ H fun x H1=>tyV K T x H1∧t σ H1 fun xs H2=>r x xs H2 Q
variable{o e:Expr}{es:List Expr}{to:TE}{t:TA}{name:Str}{apos cpos:Pos}{T id:String}{r:V→List V→Hp→VK→Prop}
theorem Zgy(pa:PlainAttrs T)(slot:Slot T name id)(hty:typeOf (.builtin id)=pure (.type "method_descriptor"))(hm:MtR X id r)(ho:PE X o to)(ha:PA X (e::es) t)
  (hbase:attributeBase o name X.env (eval o X.env)=eval o X.env:=by rfl)
  (hfew:((backTo cpos (starEach (e::es) X.env)).all (fun x=>!x.1)&&(backToKw cpos (keywordEach [] X.env)).all (fun x=>x.1.isSome)
   &&decide ((e::es).length+([]:List Keyword).length+(if([]:List Keyword).isEmpty then 0 else 1)<30))=true:=by rfl)
  (hline:(apos.endLine==cpos.line)=true:=by rfl) (hs:starEach (e::es) X.env=(false,eval e X.env)::starEach es X.env:=by rfl) (hplain:(backTo cpos (starEach es X.env)).any (·.1)=false:=by rfl):
  PE X (.Call (.Attribute o name apos) (e::es) [] cpos) (tBM X.K T r to t):=by
 intro pins s σ H Q I h
 refine wpAny_Call_method_late hbase hfew hline rfl (thn (ho pins s σ H _ I h) fun v s1 zq9=>?_)
 obtain⟨x,H1,I1,r1,ty,q1⟩:=zq9
 obtain⟨h1,h2⟩:=Zv3 I1 r1 ty
 refine⟨T,id,pa,slot,hty,h1,h2,?_⟩
 have hA:=ha cpos pins s1 σ H1 _ I1 q1
 rw[hs]at hA⊢
 refine Calls.callWith_builtin (by show(false|| (backTo cpos (starEach es X.env)).any (·.1))=false;rw[hplain]<;> rfl) (Calls.evalArgs_plain ?_)
 exact thn hA fun us s2 ⟨vs,H2,I2,r2,q2⟩=>hm pins s2 σ H2 x vs v us Q I2 r1 r2 q2
end
end L2
namespace L2
open PySem PySem.Spec PyProof.Rows
noncomputable def MtM(X:Cx)(id:String)(r:V→List V→Hp→VK→Prop):Prop:=
 ∀(pins:List (Addr×Obj)) (s:Shared) (σ:St) (H:Hp) (x:V) (xs:List V) (v:Value) (us:List Value) (Q:VK),Inv X pins σ H s→RelV x v→Vals xs us→r x xs H Q→
  wpAny (model X.prog X.w) X.A (call (.builtin id) (v::us)) (EP X pins σ Q) X.xe s
theorem Vals.one{x:V}{us:List Value}(h:Vals [x] us):∃u,us=[u]∧RelV x u:=by
 cases h with
 |cons r t=>cases t;exact⟨_,rfl,r⟩
section
variable{X:Cx}{pins:List (Addr×Obj)}{σ:St}{H:Hp}{s:Shared}{l b:Addr}{xs ys zs:List V}
theorem Inv.lset{its its':List Value}{n:Nat}{f:Array Value→Array Value}{t':Nat}(I:Inv X pins σ H s)(hH:H l=some (.lst xs))
  (e:s.heap.get? l=some {cls:=.type "list",data:=.seq its.toArray n}) (hf:f its.toArray=its'.toArray) (hv:Vals ys its') (hz:ys.length≤sizeLine):
  Inv X pins σ (upd H l (.lst ys)) {s with heap:=s.heap.update l (Obj.mapSeq f),toks:=t'}:=by
 have q:=PySem.IsL.update e f
 rw[hf]at q
 refine I.write (x:=l) (e:=l) (by rw[hH];exact trivial) (.inl rfl) (fun b' u hb hu=>(Heap.get?_update_other s.heap (Obj.mapSeq f) (Ne.symm hb)).trans hu) ⟨_,q⟩ ?_
 exact⟨hz,its',_,hv,q⟩
theorem Inv.lnew{its:List Value}{t':Nat}(I:Inv X pins σ H s)(hv:Vals ys its)(hz:ys.length≤sizeLine):
  Inv X pins σ (upd H s.heap.objs.size (.lst ys)) {s with heap:=s.heap.push {cls:=.type "list",data:=.seq its.toArray},toks:=t'}:=
 I.laid (fun _ _ q=>Heap.get?_push_of_some _ q) (Nat.le_refl _) ⟨hz,its,0,hv,Heap.get?_push_size _ rfl⟩
theorem Inv.fresh(I:Inv X pins σ H s):H s.heap.objs.size=none:=I.hok.fresh (Nat.le_refl _)
theorem Inv.lstM(I:Inv X pins σ H s)(hH:H l=some (.lst xs)):xs.length≤sizeLine∧∃(its:List Value) (n:Nat),Vals xs its∧xs.length=its.length∧s.heap.get? l=some {cls:=.type "list",data:=.seq its.toArray n}:=by
 obtain⟨z,its,n,r,e⟩:=I.hok l _ hH
 exact⟨z,its,n,r,r.length,e⟩
theorem Zpt{n:Nat}(h:n≤sizeLine):Builtin.List.listTooLong n=false:=by
 unfold Builtin.List.listTooLong
 exact decide_eq_false (by omega)
end
section
variable{X:Cx}
noncomputable def Zc5:V→List V→Hp→VK→Prop:=fun x vs H Q=>∃l xs y,x= .ref l∧vs=[y]∧H l=some (.lst xs)∧xs.length<sizeLine∧Q .non (upd H l (.lst (xs++[y])))
theorem Zd0:MtM X "list.append" Zc5:=by
 intro pins s σ H x vs v us Q I rx rv h
 obtain⟨l,xs,y,rfl,rfl,hH,hz,q⟩:=h
 cases rx
 obtain⟨u,rfl,ru⟩:=rv.one
 obtain⟨z,its,n,r,hl,e⟩:=I.lstM hH
 refine call_meets F.slot_list_append ⟨_,e,rfl⟩ F.entry_list_append (F.args_list_append_2 _ _) (PySem.list_append l its.toArray n u (by rw[List.size_toArray];omega)) ⟨e,?_⟩
 refine⟨.non,_,I.lset (its':=its++[u]) hH e (by simp) (r.append (.cons ru .nil)) ?_,rfl,q⟩
 rw[List.length_append,List.length_singleton]
 omega
noncomputable def Zmm:V→List V→Hp→VK→Prop:=fun x vs H Q=>∃l b xs zs,x= .ref l∧vs=[.ref b]∧H l=some (.lst xs)∧H b=some (.lst zs)∧xs.length+zs.length≤sizeLine∧Q .non (upd H l (.lst (xs++zs)))
theorem Zmn:MtM X "list.extend" Zmm:=by
 intro pins s σ H x vs v us Q I rx rv h
 obtain⟨l,b,xs,zs,rfl,rfl,hH,hB,hz,q⟩:=h
 cases rx
 obtain⟨u,rfl,ru⟩:=rv.one
 cases ru
 obtain⟨z,its,n,r,hl,e⟩:=I.lstM hH
 obtain⟨z2,its2,n2,r2,hl2,e2⟩:=I.lstM hB
 have hsz:its.toArray.size+its2.toArray.size≤sizeLine:=by rw[List.size_toArray,List.size_toArray];omega
 have hlong:¬(!its.toArray.isEmpty&&Builtin.List.listTooLong (its.toArray.size+its2.toArray.size))=true:=by
  rw[Zpt hsz,Bool.and_false]
  exact Bool.false_ne_true
 refine call_meets F.slot_list_extend ⟨_,e,rfl⟩ F.entry_list_extend (F.args_list_extend_2 _ _)
  (AutoSeq1.list_extend_list_list_0 l its.toArray n b its2.toArray n2 hlong (by rw[List.size_toArray];omega) (by omega)) ⟨e,e2,?_⟩
 refine⟨.non,_,I.lset (its':=its++its2) hH e (by simp) (r.append r2) ?_,rfl,q⟩
 rw[List.length_append]
 omega
noncomputable def rPop:V→List V→Hp→VK→Prop:=fun x vs H Q=>∃l xs y,x= .ref l∧vs=[]∧H l=some (.lst xs)∧xs[xs.length- 1]? =some y∧Q y (upd H l (.lst xs.dropLast))
noncomputable def Z1s:V→List V→Hp→VK→Prop:=fun x vs H Q=>∃l xs i k y,x= .ref l∧vs=[.int i]∧H l=some (.lst xs)∧-(2^63)≤i∧i<2^63∧seqIndex? i xs.length=some k∧xs[k]? =some y∧Q y (upd H l (.lst (xs.eraseIdx k)))
noncomputable def Zyw:V→List V→Hp→VK→Prop:=fun x vs H Q=>∃l xs,x= .ref l∧vs=[]∧H l=some (.lst xs)∧Q .non (upd H l (.lst xs.reverse))
noncomputable def Z1t:V→List V→Hp→VK→Prop:=fun x vs H Q=>∃l xs,x= .ref l∧vs=[]∧H l=some (.lst xs)∧Q .non (upd H l (.lst []))
noncomputable def rCat:R2:=fun x y H Q=>∃l b xs zs,x= .ref l∧y= .ref b∧H l=some (.lst xs)∧H b=some (.lst zs)∧xs.length+zs.length≤sizeLine∧∀p,H p=none→Q (.ref p) (upd H p (.lst (xs++zs)))
noncomputable def rRep:R2:=fun x y H Q=>∃l k xs,x= .ref l∧y= .int k∧H l=some (.lst xs)∧-(2^63)≤k∧k<2^63∧xs.length*k.toNat≤sizeLine∧
 ∀p,H p=none→Q (.ref p) (upd H p (.lst (List.replicate k.toNat xs).flatten))
end
section
variable{prog:Program}{w:World}{A:Around}{E:Value→Shared→Prop}{s:Shared}
end
section
variable{X:Cx}
end
end L2
namespace L2
open PySem PySem.Spec PyProof.Rows
section
variable{κ:Type}[DecidableEq κ]
noncomputable def valV(kvs:List (κ×V))(k:κ):Option V:=(kvs.find? fun kv=>decide (kv.1=k)).map (·.2)
noncomputable def putK(kvs:List (κ×V))(k:κ)(v:V):List (κ×V):=
 if(kvs.any fun kv=>decide (kv.1=k))=true then kvs.map (fun kv=>if kv.1=k then(kv.1,v)else kv)else kvs++[(k,v)]
noncomputable def Zsy(kvs:List (κ×V))(k:κ):List (κ×V):=kvs.filter fun kv=>decide (kv.1≠k)
theorem Zpu{k:κ}:valV ([]:List (κ×V)) k=none:=rfl
theorem Zcx{p:κ×V}{r:List (κ×V)}{k:κ}(e:p.1=k):valV (p::r) k=some p.2:=by simp[valV,List.find?_cons,e]
theorem Zcy{p:κ×V}{r:List (κ×V)}{k:κ}(e:¬p.1=k):valV (p::r) k=valV r k:=by simp[valV,List.find?_cons,e]
theorem Zfm(k:κ):∀kvs:List (κ×V),(kvs.any fun kv=>decide (kv.1=k))=(valV kvs k).isSome
 | []=>rfl
 |p::r=>by
  rw[List.any_cons]
  by_cases e:p.1=k
  ·simp only[Zcx e,decide_eq_true e,Bool.true_or,Option.isSome_some]
  ·rw[Zcy e,decide_eq_false e,Bool.false_or];exact Zfm k r
theorem Zd1(kvs:List (κ×V))(k:κ)(v:V):(putK kvs k v).length≤kvs.length+1:=by
 unfold putK
 split
 ·rw[List.length_map];omega
 ·rw[List.length_append,List.length_cons,List.length_nil];omega
theorem RelO.isSome_eq{o:Option V}{u:Option Value}(r:RelO o u):o.isSome=u.isSome:=by
 cases o with
 |none=>cases u with
  |none=>rfl
  |some _=>exact(show False from r).elim
 |some _=>cases u with
  |none=>exact(show False from r).elim
  |some _=>rfl
theorem RelO.getD{o:Option V}{u:Option Value}{d:V}{d':Value}(r:RelO o u)(rd:RelV d d'):RelV (o.getD d) (u.getD d'):=by
 cases o with
 |none=>cases u with
  |none=>exact rd
  |some _=>exact(show False from r).elim
 |some _=>cases u with
  |none=>exact(show False from r).elim
  |some _=>exact r
theorem KV.val{kvs:List (κ×V)}{vs:List (κ×Value)}(r:KV kvs vs)(k:κ):RelO (valV kvs k) (valueAt vs k):=by
 unfold KV at r
 induction r with
 |nil=>exact True.intro
 | @cons p q ps qs h t ih=>
  obtain⟨h1,h2⟩:=h
  by_cases e:p.1=k
  ·have e':q.1=k:=h1.symm.trans e
   have b:valueAt (q::qs) k=some q.2:=by simp[valueAt,List.find?_cons,e']
   rw[Zcx e,b];exact h2
  ·have e':¬q.1=k:=fun z=>e (h1.trans z)
   have b:valueAt (q::qs) k=valueAt qs k:=by simp[valueAt,List.find?_cons,e']
   rw[Zcy e,b];exact ih
theorem KV.any{kvs:List (κ×V)}{vs:List (κ×Value)}(r:KV kvs vs)(k:κ):(kvs.any fun kv=>decide (kv.1=k))=vs.any fun kv=>decide (kv.1=k):=by
 unfold KV at r
 induction r with
 |nil=>rfl
 |cons h t ih=>rw[List.any_cons,List.any_cons,ih,h.1]
theorem KV.repl{kvs:List (κ×V)}{vs:List (κ×Value)}(r:KV kvs vs)(k:κ){y:V}{u:Value}(ry:RelV y u):
  KV (kvs.map fun kv=>if kv.1=k then(kv.1,y)else kv) (vs.map fun kv=>if kv.1=k then(kv.1,u)else kv):=by
 unfold KV at r⊢
 induction r with
 |nil=>exact .nil
 | @cons p q ps qs h t ih=>
  rw[List.map_cons,List.map_cons]
  refine .cons ?_ ih
  obtain⟨h1,h2⟩:=h
  by_cases e:p.1=k
  ·rw[if_pos e,if_pos (h1.symm.trans e)];exact⟨h1,ry⟩
  ·rw[if_neg e,if_neg (fun z=>e (h1.trans z))];exact⟨h1,h2⟩
theorem KV.put{kvs:List (κ×V)}{vs:List (κ×Value)}(r:KV kvs vs)(k:κ){y:V}{u:Value}(ry:RelV y u):KV (putK kvs k y) (stored vs k u):=by
 unfold putK stored
 rw[r.any k]
 by_cases e:(vs.any fun kv=>decide (kv.1=k))=true
 ·rw[if_pos e,if_pos e];exact r.repl k ry
 ·rw[if_neg e,if_neg e];exact Paired.snoc r ⟨rfl,ry⟩
theorem KV.length{kvs:List (κ×V)}{vs:List (κ×Value)}(r:KV kvs vs):kvs.length=vs.length:=Paired.length r
end
theorem Zij{P:Program}{w:World}{k:Key}{u:Value}(r:RelV (kV k) u):(Zm P w).is k u=true:=by
 cases k with
 |inl i=>obtain⟨t,e⟩:=(show∃t,u=Value.int i t from r);subst e;exact Zib P w i t
 |inr x=>obtain⟨t,e⟩:=(show∃t,u=Value.str x t from r);subst e;exact Zic P w x t
theorem Zgz{P:Program}{w:World}:∀{ks:List Key} {us:List Value},Vals (ks.map kV) us→ItemsAre (Zm P w) ks us
 | [],_,r=>by rw[List.map_nil]at r;cases r;exact .nil
 |k::ks,_,r=>by
  rw[List.map_cons]at r
  cases r with
  |cons h t=>exact .cons (Zij h) (Zgz t)
noncomputable abbrev KT(H:Hp):List (List Key×V)→List (List Key×Addr×Value)→Prop:=Paired fun p q=>p.1=q.1∧H q.2.1=some (.tup (p.1.map kV))∧RelV p.2 q.2.2
theorem KT.val{H:Hp}{kvs:List (List Key×V)}{xs:List (List Key×Addr×Value)}(r:KT H kvs xs)(k:List Key):RelO (valV kvs k) ((atKey xs k).map (·.2)):=by
 induction r with
 |nil=>exact True.intro
 | @cons p q ps qs h t ih=>
  obtain⟨h1,_,h2⟩:=h
  by_cases e:p.1=k
  ·have e':q.1=k:=h1.symm.trans e
   have b:atKey (q::qs) k=some q.2:=by simp[atKey,List.find?_cons,e']
   rw[Zcx e,b];exact h2
  ·have e':¬q.1=k:=fun z=>e (h1.trans z)
   have b:atKey (q::qs) k=atKey qs k:=by simp[atKey,List.find?_cons,e']
   rw[Zcy e,b];exact ih
theorem KT.repl{H:Hp}{kvs:List (List Key×V)}{xs:List (List Key×Addr×Value)}(r:KT H kvs xs)(k:List Key){y:V}{u:Value}(ry:RelV y u):
  KT H (kvs.map fun kv=>if kv.1=k then(kv.1,y)else kv) (xs.map (putAt k u)):=by
 induction r with
 |nil=>exact .nil
 | @cons p q ps qs h t ih=>
  rw[List.map_cons,List.map_cons]
  refine .cons ?_ ih
  obtain⟨h1,h2,h3⟩:=h
  unfold putAt
  by_cases e:p.1=k
  ·rw[if_pos e,if_pos (h1.symm.trans e)];exact⟨h1,h2,ry⟩
  ·rw[if_neg e,if_neg (fun z=>e (h1.trans z))];exact⟨h1,h2,h3⟩
theorem KT.put{H:Hp}{kvs:List (List Key×V)}{xs:List (List Key×Addr×Value)}(r:KT H kvs xs)(k:List Key){b:Addr}{y:V}{u:Value}(hb:H b=some (.tup (k.map kV)))(ry:RelV y u):
  KT H (putK kvs k y) (storedH xs k b u):=by
 have e:(kvs.any fun kv=>decide (kv.1=k))=(atKey xs k).isSome:=by
  rw[Zfm,(r.val k).isSome_eq,Option.isSome_map]
 unfold putK storedH
 rw[e]
 by_cases q:(atKey xs k).isSome=true
 ·rw[if_pos q,if_pos q];exact r.repl k ry
 ·rw[if_neg q,if_neg q];exact Paired.snoc r ⟨rfl,hb,ry⟩
theorem KT.keeps{H H':Hp}{kvs:List (List Key×V)}{xs:List (List Key×Addr×Value)}(r:KT H kvs xs)(ht:∀b ys,H b=some (.tup ys)→H' b=some (.tup ys)):KT H' kvs xs:=
 Paired.mapP r fun _ _ z=>⟨z.1,ht _ _ z.2.1,z.2.2⟩
section
variable{P:Program}{w:World}{H:Hp}{h:Heap}{a:Addr}
theorem Zv4{u:HO}(ok:HOk P w H h)(e:Rd H a u):Zaq P w H h a u:=e.ok ok
theorem Ze1{kvs:List (Key×V)}(ok:HOk P w H h)(e:RdK H a kvs):kvs.length≤sizeLine∧(a==sysModules)=false∧∃vs,KV kvs vs∧h.DictOf (Zm P w) a vs:=
 let⟨ep,e⟩:=e;let⟨z,y,vs,r,d⟩:=(show Zaq P w H h a (.dK kvs ep)from Zv4 ok e);⟨z,y,vs,r,d.dictOf⟩
theorem Zv5{kvs:List (Key×V)}(ok:HOk P w H h)(e:HK H a kvs):kvs.length≤sizeLine∧(a==sysModules)=false∧∃vs,KV kvs vs∧h.DictOf (Zm P w) a vs:=Ze1 ok e.rd
theorem Zd2{ks:List Key}(ok:HOk P w H h)(e:H a=some (.tup (ks.map kV))):(tupleKind (Zm P w)).is h ks a:=by
 obtain⟨_,its,r,o,h1,h2,n,h3⟩:=(show Zaq P w H h a (.tup (ks.map kV))from ok a _ e)
 exact⟨o,its.toArray,n,h1,h2,h3,by simpa using Zgz r⟩
theorem Zik{kvs:List (List Key×V)}(ok:HOk P w H h)(e:RdT H a kvs):kvs.length≤sizeLine∧(a==sysModules)=false∧
  ∃xs,KT H kvs xs∧h.DictOfH (tupleKind (Zm P w)) a xs:=by
 obtain⟨ep,bs,e⟩:=e
 obtain⟨z,y,xs,r,o,es,h1,h2,h3,h4,h5,_⟩:=(show Zaq P w H h a (.dT kvs ep bs)from Zv4 ok e)
 refine⟨z,y,xs,r,o,es,ep,h1,h2,h3,h4,fun x hx=>?_,h5⟩
 have all:∀{l:List (List Key×V)} {m:List (List Key×Addr×Value)},KT H l m→∀x∈m,(tupleKind (Zm P w)).is h x.1 x.2.1:=by
  intro l m q
  induction q with
  |nil=>intro x hx;exact nomatch hx
  | @cons p q ps qs hq t ih=>
   intro x hx
   rcases List.mem_cons.mp hx with e|hx
   ·subst e
    exact Zd2 ok (by rw[←hq.1];exact hq.2.1)
   ·exact ih x hx
 exact all r x hx
theorem Zzi{kvs:List (List Key×V)}(ok:HOk P w H h)(e:HTt H a kvs):kvs.length≤sizeLine∧(a==sysModules)=false∧
  ∃xs,KT H kvs xs∧h.DictOfH (tupleKind (Zm P w)) a xs:=Zik ok e.rd
end
noncomputable def DGet(H:Hp)(a:Addr)(y:V)(r:Option V):Prop:=
 (∃kvs k,RdK H a kvs∧y=kV k∧r=valV kvs k)∨∃kvs k b,RdT H a kvs∧y= .ref b∧H b=some (.tup (k.map kV))∧r=valV kvs k
noncomputable def DPut(H:Hp)(a:Addr)(y v:V)(R:Hp→Prop):Prop:=
 (∃kvs k,HK H a kvs∧y=kV k∧kvs.length<sizeLine∧∀ep,R (upd H a (.dK (putK kvs k v) ep)))∨
 ∃kvs k b,HTt H a kvs∧y= .ref b∧H b=some (.tup (k.map kV))∧kvs.length<sizeLine∧∀ep ep0 bs,H a=some (.dT kvs ep0 bs)→R (upd H a (.dT (putK kvs k v) ep (putB kvs bs k b)))
theorem DGet.k{H:Hp}{a:Addr}{kvs:List (Key×V)}{k:Key}(e:HK H a kvs):DGet H a (kV k) (valV kvs k):=.inl ⟨kvs,k,e.rd,rfl,rfl⟩
theorem DGet.t{H:Hp}{a b:Addr}{kvs:List (List Key×V)}{k:List Key}(e:HTt H a kvs)(eb:H b=some (.tup (k.map kV))):DGet H a (.ref b) (valV kvs k):=.inr ⟨kvs,k,b,e.rd,rfl,eb,rfl⟩
theorem DPut.k{H:Hp}{a:Addr}{kvs:List (Key×V)}{k:Key}{v:V}{R:Hp→Prop}(e:HK H a kvs)(hl:kvs.length<sizeLine)(h:∀ep,R (upd H a (.dK (putK kvs k v) ep))):DPut H a (kV k) v R:=.inl ⟨kvs,k,e,rfl,hl,h⟩
theorem DPut.t{H:Hp}{a b:Addr}{kvs:List (List Key×V)}{k:List Key}{v:V}{R:Hp→Prop}(e:HTt H a kvs)(eb:H b=some (.tup (k.map kV)))(hl:kvs.length<sizeLine)(h:∀ep ep0 bs,H a=some (.dT kvs ep0 bs)→R (upd H a (.dT (putK kvs k v) ep (putB kvs bs k b)))):
  DPut H a (.ref b) v R:=.inr ⟨kvs,k,b,e,rfl,eb,hl,h⟩
section
variable{X:Cx}{pins:List (Addr×Obj)}{σ:St}{H:Hp}{s:Shared}{a:Addr}{y v:V}{u r:Value}{o:Option V}{A:Around}{E:Value→Shared→Prop}
theorem Inv.big(I:Inv X pins σ H s):sysModules<s.heap.objs.size:=by
 have h:mainGlobals<s.heap.objs.size:=(I.mod.glob.keeps I.bk).lt
 exact Nat.lt_trans (by decide) h
theorem Zmo{Q:Value→Shared→Prop}(hu:A.units+1<cLine)(I:Inv X pins σ H s)(g:DGet H a y (some v))(ry:RelV y u)(h:∀w' s',Inv X pins σ H s'→RelV v w'→Q w' s'):
  wpAny (model X.prog X.w) A (getItem (.ref a) u) Q E s:=by
 rcases g with⟨kvs,k,e,ey,l⟩|⟨kvs,k,b,e,ey,eb,l⟩
 ·subst ey
  obtain⟨z,hd,vs,rel,dd⟩:=Ze1 I.hok e
  obtain⟨w',hw,rw'⟩:=RelO.some_of (v:=v) (o:=valueAt vs k) (by rw[l];exact rel.val k)
  exact wpAny_getItem_of (Zij ry) dd.mapOf hw (h w' _ (I.tok _) rw')
 ·subst ey
  cases(show u=Value.ref b from ry)
  obtain⟨z,hd,xs,rel,dd⟩:=Zik I.hok e
  obtain⟨w',hw,rw'⟩:=RelO.some_of (v:=v) (o:=(atKey xs k).map (·.2)) (by rw[l];exact rel.val k)
  obtain⟨p,hp,hp2⟩:=Option.map_eq_some_iff.mp hw
  refine wpAny_getItem_heap (tupleKind_room_in1 hu) (Zd2 I.hok eb) dd hp ?_
  rw[hp2]
  exact h w' _ (I.tok _) rw'
theorem d_in{Q:Value→Shared→Prop}(hu:A.units+1<cLine)(I:Inv X pins σ H s)(g:DGet H a y o)(ry:RelV y u)(h:∀s',Inv X pins σ H s'→Q (.bool o.isSome) s'):
  wpAny (model X.prog X.w) A (compareOp .In u (.ref a)) Q E s:=by
 rcases g with⟨kvs,k,e,ey,l⟩|⟨kvs,k,b,e,ey,eb,l⟩
 ·subst ey
  obtain⟨z,hd,vs,rel,dd⟩:=Ze1 I.hok e
  refine wpAny_in_of (Zij ry) hd dd.mapOf ?_
  rw[←(rel.val k).isSome_eq,←l]
  exact h _ (I.tok _)
 ·subst ey
  cases(show u=Value.ref b from ry)
  obtain⟨z,hd,xs,rel,dd⟩:=Zik I.hok e
  refine wpAny_in_heap (tupleKind_room_in1 hu) (Zd2 I.hok eb) hd dd ?_
  have q:=(rel.val k).isSome_eq
  rw[Option.isSome_map]at q
  rw[←q,←l]
  exact h _ (I.tok _)
theorem Zsz{Q:Value→Shared→Prop}(hu:A.units+1<cLine)(I:Inv X pins σ H s)(g:DGet H a y o)(ry:RelV y u)(h:∀s',Inv X pins σ H s'→Q (.bool (!o.isSome)) s'):
  wpAny (model X.prog X.w) A (compareOp .NotIn u (.ref a)) Q E s:=by
 rcases g with⟨kvs,k,e,ey,l⟩|⟨kvs,k,b,e,ey,eb,l⟩
 ·subst ey
  obtain⟨z,hd,vs,rel,dd⟩:=Ze1 I.hok e
  refine wpAny_notIn_of (Zij ry) hd dd.mapOf ?_
  rw[←(rel.val k).isSome_eq,←l]
  exact h _ (I.tok _)
 ·subst ey
  cases(show u=Value.ref b from ry)
  obtain⟨z,hd,xs,rel,dd⟩:=Zik I.hok e
  refine wpAny_notIn_heap (tupleKind_room_in1 hu) (Zd2 I.hok eb) hd dd ?_
  have q:=(rel.val k).isSome_eq
  rw[Option.isSome_map]at q
  rw[←q,←l]
  exact h _ (I.tok _)
theorem Zmp{h':Heap}{t':Nat}{ob:HO}(I:Inv X pins σ H s)(mu:Mut (H a))(hs:Heap.SameBut a s.heap h')(he:∃q,h'.get? a=some q)(new:Zaq X.prog X.w (upd H a ob) h' a ob):
  Inv X pins σ (upd H a ob) {s with heap:=h',toks:=t'}:=
 I.write (x:=a) (e:=a) mu (.inl rfl) (fun b q hb z=>(hs.2 b hb).trans z) he new
theorem Zv6{P:Program}{w:World}{h':Heap}{kvs:List (Key×V)}{vs:List (Key×Value)}(z:kvs.length≤sizeLine)(hd:(a==sysModules)=false)(rel:KV kvs vs)(dd:h'.DictOf (Zm P w) a vs):
  ∃ep,∀H':Hp,Zaq P w H' h' a (.dK kvs ep):=let⟨ep,dd⟩:=dd.dictAt;⟨ep,fun _=>⟨z,hd,vs,rel,dd⟩⟩
theorem Zmq{R:Hp→Prop}{Q:Unit→Shared→Prop}(hu:A.units+1<cLine)(I:Inv X pins σ H s)(g:DPut H a y v R)(ry:RelV y u)(rv:RelV v r)(h:∀H' s',R H'→Inv X pins σ H' s'→Q () s'):
  wpAny (model X.prog X.w) A (setItem (.ref a) u r) Q E s:=by
 rcases g with⟨kvs,k,e,ey,l,eH⟩|⟨kvs,k,b,e,ey,eb,l,eH⟩
 ·subst ey
  obtain⟨z,hd,vs,rel,dd⟩:=Zv5 I.hok e
  have hz:vs.length≤sizeLine:=by rw[←rel.length];exact z
  have hl:(putK kvs k v).length≤sizeLine:=by have:=Zd1 kvs k v;omega
  refine wpAny_setItem_pairs (hsz:=hz) (Zij ry) dd fun h' dd' hs=>?_
  have he:∃q,h'.get? a=some q:=let⟨q,_,_,hq,_⟩:=dd';⟨q,hq⟩
  obtain⟨ep,ok⟩:=Zv6 hl hd (rel.put k rv) dd'
  exact h _ _ (eH ep) (Zmp I (by obtain⟨e0,e⟩:=e;rw[e];exact True.intro) hs he (ok _))
 ·subst ey
  cases(show u=Value.ref b from ry)
  obtain⟨z,hd,xs,rel,dd⟩:=Zzi I.hok e
  have hz:xs.length≤sizeLine:=by rw[←Paired.length rel];exact z
  have hl:(putK kvs k v).length≤sizeLine:=by have:=Zd1 kvs k v;omega
  refine wpAny_setItem_heap (hsz:=hz) (tupleKind_room_in1 hu) (Zd2 I.hok eb) dd fun h' dd' hs=>?_
  obtain⟨q,es,ep,hq,h2,h3,h4,_,h5⟩:=dd'
  obtain⟨e0,bs,e⟩:=e
  have hb:(xs.map fun x=>x.2.1)=bs:=by
   obtain⟨_,_,xs',r',_,_,w1,_,w3,w4,_,w6⟩:=(show Zaq X.prog X.w H s.heap a (.dT kvs e0 bs)from I.hok a _ e)
   obtain⟨_,_,_,y1,_,y3,y4,_⟩:=dd
   rw[w1]at y1;cases y1
   rw[w3]at y3;cases y3
   have:xs'.map (fun x=>x.2.1)=xs.map fun x=>x.2.1:=by
    have z:=congrArg (List.map DictEntry.key) (w4.symm.trans y4)
    rw[List.map_map,List.map_map]at z
    have inj:∀{l m:List (List Key×Addr×Value)},l.map (DictEntry.key∘entryOfKey (tupleKind (Zm X.prog X.w)))=m.map (DictEntry.key∘entryOfKey (tupleKind (Zm X.prog X.w)))→(l.map fun x=>x.2.1)=m.map fun x=>x.2.1:=by
     intro l
     induction l with
     |nil=>intro m z;cases m with
      |nil=>rfl
      |cons _ _=>cases z
     |cons x l ih=>intro m z;cases m with
      |nil=>cases z
      |cons y m=>
       rw[List.map_cons,List.map_cons]at z⊢
       injection z with z1 z2
       have z1':Value.ref x.2.1=Value.ref y.2.1:=z1
       injection z1' with z1'
       rw[z1',ih z2]
    exact inj z
   rw[←this];exact w6
  have hb2:((storedH xs k b r).map fun x=>x.2.1)=putB kvs bs k b:=by
   have ee:(kvs.any fun kv=>decide (kv.1=k))=(atKey xs k).isSome:=by
    rw[Zfm,(rel.val k).isSome_eq,Option.isSome_map]
   unfold putB storedH
   rw[ee]
   by_cases qq:(atKey xs k).isSome=true
   ·rw[if_pos qq,if_pos qq,List.map_map,←hb]
    refine List.map_congr_left fun x _=>?_
    show(putAt k r x).2.1=x.2.1
    unfold putAt
    split<;> rfl
   ·rw[if_neg qq,if_neg qq,List.map_append,hb];rfl
  refine h _ _ (eH ep e0 bs e) (Zmp I (by rw[e];exact True.intro) hs ⟨q,hq⟩ ⟨hl,hd,_,(rel.put k eb rv).keeps fun c ys ec=>?_,q,es,hq,h2,h3,h4,h5,hb2⟩)
  rw[Zo (Zzb ec e (fun z=>nomatch z))]
  exact ec
end
section
variable{X:Cx}{pins:List (Addr×Obj)}{σ:St}{H:Hp}{s:Shared}{a:Addr}{kvs:List (Key×V)}{k:Key}{u:Value}{A:Around}{E:Value→Shared→Prop}
theorem Zzj{Q:Value→Shared→Prop}(I:Inv X pins σ H s)(e:RdK H a kvs)(h:∀t s',Inv X pins σ H s'→Q (.int kvs.length t) s'):wpAny (model X.prog X.w) A (call (.builtin "len") [.ref a]) Q E s:=by
 obtain⟨z,hd,vs,rel,dd⟩:=Ze1 I.hok e
 refine call_len_dict hd dd (by rw[←rel.length];rw[sizeLine_eq]at z;omega) ?_
 rw[←rel.length]
 exact h _ _ (I.tok _)
end
noncomputable def NoSl(i:Expr):Prop:=∀ov iv,subscripted i false ov iv=operate [ov,iv] (getItem ov iv)
theorem Zs0{prog:Program}{w:World}{A:Around}{E:Value→Shared→Prop}{s:Shared}{env:Env}{value slice:Expr}{pos:Pos}{T id:String}{Q:Value→Shared→Prop}
  (hl:typeLookup (.type T) "__getitem__"=pure (some (.builtin id))) (hs:NoSl slice)
  (h:wpAny (model prog w) A (eval value env) (fun o s₁=>wpAny (model prog w) A (eval slice env) (fun i s₂=>s₂.TypeIs o T∧wpAny (model prog w) A (getItem o i) Q E s₂) E s₁) E s):
  wpAny (model prog w) A (eval (.Subscript value slice pos) env) Q E s:=by
 refine Subscript_ (wpAny_mono h (fun o s₁ h₁=>wpAny_mono h₁ (fun i s₂ h₂=>?_) fun _ _ x=>x) fun _ _ x=>x)
 obtain⟨hT,h₂⟩:=h₂
 unfold subscriptTail
 refine wpAny_bind ?_
 rw[getitemInPython_of_ne hT.not_modules]
 refine wpAny_bind (wpAny_specialOf hT hl ?_)
 have fin:wpAny (model prog w) A (subscripted slice false o i) (fun r s₃=>wpAny (model prog w) A (letTemporaryGo value o r >>=fun _=>pure r) Q E s₃) E s₂:=by
  rw[hs o i]
  exact wpAny_operating (wpAny_mono h₂ (fun r s₃ h₃=>wpAny_bind (wpAny_letTemporaryGo (wpAny_pure h₃))) fun _ _ x=>x)
 first
  |exact wpAny_pure (wpAny_bind fin)
  |exact wpAny_bind (wpAny_pure (wpAny_bind fin))
  |exact wpAny_bind fin
theorem Zil{X:Cx}{pins:List (Addr×Obj)}{σ:St}{H:Hp}{s:Shared}{a:Addr}{y:V}{o:Option V}(I:Inv X pins σ H s)(g:DGet H a y o):s.TypeIs (.ref a) "dict":=by
 rcases g with⟨kvs,k,e,_,_⟩|⟨kvs,k,b,e,_,_,_⟩
 ·obtain⟨_,_,vs,_,dd⟩:=Ze1 I.hok e
  exact dd.typeIs
 ·obtain⟨_,_,xs,_,dd⟩:=Zik I.hok e
  exact dd.typeIs
noncomputable def Zv7(td ty:TE):TE:=fun σ H Q=>td σ H fun x H1=>ty σ H1 fun y H2=>∃a v,x= .ref a∧DGet H2 a y (some v)∧Q v H2
noncomputable def tDIn(ty td:TE):TE:=fun σ H Q=>ty σ H fun y H1=>td σ H1 fun x H2=>∃a o,x= .ref a∧DGet H2 a y o∧Q (.bl o.isSome) H2
noncomputable def Zzk(ty td:TE):TE:=fun σ H Q=>ty σ H fun y H1=>td σ H1 fun x H2=>∃a o,x= .ref a∧DGet H2 a y o∧Q (.bl (!o.isSome)) H2
noncomputable def Zmr(td ty tv:TE):TS:=fun D σ H=>tv σ H fun v H1=>td σ H1 fun x H2=>ty σ H2 fun y H3=>∃a,x= .ref a∧DPut H3 a y v (D.nx σ)
noncomputable def Z29(td ty tv:TE)(rd:V→V→Hp→VK→Prop):TS:=fun D σ H=>td σ H fun x H1=>ty σ H1 fun y H2=>∃a v,x= .ref a∧DGet H2 a y (some v)∧
 tv σ H2 fun y2 H3=>rd v y2 H3 fun z H4=>DPut H4 a y z (D.nx σ)
noncomputable def Z3a(td ty:TE):TS:=fun D σ H=>td σ H fun x H1=>ty σ H1 fun y H2=>∃a kvs k,x= .ref a∧HK H2 a kvs∧y=kV k∧(valV kvs k).isSome=true∧∀ep,D.nx σ (upd H2 a (.dK (Zsy kvs k) ep))
section
variable{X:Cx}{o i e value:Expr}{pos pos' tpos:Pos}{td ty tv:TE}
theorem Zms(hu:X.A.units+1<cLine)(ho:PE X o td)(hi:PE X i ty)(hs:NoSl i):PE X (.Subscript o i pos) (Zv7 td ty):=by
 intro pins s σ H Q I h
 refine Zs0 PySem.F.slot_dict_getitem.lookup hs (thn (ho pins s σ H _ I h) fun u s1 ⟨x,H1,I1,rx,q1⟩=>thn (hi pins s1 σ H1 _ I1 q1) fun iv s2 zq9=>?_)
 obtain⟨y,H2,I2,ry,a,v,ex,g,q2⟩:=zq9
 subst ex
 obtain rfl:u=Value.ref a:=rx
 exact⟨Zil I2 g,Zmo hu I2 g ry fun w' s3 I3 rw'=>⟨v,H2,I3,rw',q2⟩⟩
theorem Zmt(hu:X.A.units+1<cLine)(ho:PE X o td)(hi:PE X i ty)(hv:PE X value tv)(hs:swapsWith value (some (.Subscript o i pos')) pos.line X.env=pure false):
  PS X (.Assign [.Subscript o i pos'] value pos) (Zmr td ty tv):=by
 intro pins s σ H D I h
 refine wpAny_Assign_Subscript (thn (hv pins s σ H _ I h) fun r s1 ⟨v,H1,I1,rv,q1⟩=>thn (ho pins s1 σ H1 _ I1 q1) fun u s2 ⟨x,H2,I2,rx,q2⟩=>thn (hi pins s2 σ H2 _ I2 q2) fun iv s3 ⟨y,H3,I3,ry,a,ex,g⟩=>?_) hs
 subst ex
 obtain rfl:u=Value.ref a:=rx
 exact Zmq hu I3 g ry rv fun H4 s4 q3 I4=>⟨σ,H4,I4,q3⟩
end
theorem Zpv{P:Program}{w:World}{H:Hp}(h:Heap)(hb:sysModules<h.objs.size):Zaq P w H (h.push {cls:=.type "dict",data:=.dict #[]}) h.objs.size (.dK [] 0):=
 ⟨Nat.zero_le _,beq_eq_false_iff_ne.mpr (Ne.symm (Nat.ne_of_lt hb)),[],.nil,_, #[],Heap.get?_push_size _ rfl,⟨rfl,rfl,rfl⟩,rfl,fun _ he=>by simp at he,Pairs.nil,List.nodup_nil⟩
noncomputable def Zrr:TE:=fun _ H Q=>∀p,H p=none→Q (.ref p) (upd H p (.dK [] 0))
noncomputable def Z1u:TE:=fun _ H Q=>∀p,H p=none→Q (.ref p) (upd H p (.dT [] 0 []))
section
variable{X:Cx}{pos:Pos}
theorem Zpw:PE X (.Dict [] [] pos) Zrr:=fun pins s σ H Q I h=>
 wpAny_Dict_empty ⟨.ref s.heap.objs.size,_,I.laid (a:=s.heap.objs.size) (o:=.dK [] 0) (t':=s.toks) (fun _ _ q=>Heap.get?_push_of_some _ q) (Nat.le_refl _) (Zpv s.heap I.big),rfl,h _ (I.hok.fresh (Nat.le_refl _))⟩
end
noncomputable def Zjr:List (TE×TE)→St→Hp→(List (V×V)→Hp→Prop)→Prop
  | [],_,H,Q=>Q [] H
  | (tk,tv)::r,σ,H,Q=>tk σ H fun x H1=>tv σ H1 fun y H2=>Zjr r σ H2 fun ps H3=>Q ((x,y)::ps) H3
noncomputable abbrev VV:List (V×V)→List (Value×Value)→Prop:=Paired fun p q=>RelV p.1 q.1∧RelV p.2 q.2
noncomputable def PPs(X:Cx)(pos:Pos)(keys:List (Option Expr))(values:List Expr)(trs:List (TE×TE)):Prop:=
 ∀(pins:List (Addr×Obj)) (s:Shared) (σ:St) (H:Hp) (Q:List (V×V)→Hp→Prop),Inv X pins σ H s→Zjr trs σ H Q→
  wpAny (model X.prog X.w) X.A (evalPairs (pairTrees keys values X.env pos)) (fun vs s'=>∃ps H',Inv X pins σ H' s'∧VV ps vs∧Q ps H') X.xe s
noncomputable def Zrs(kvs more:List (Key×V)):List (Key×V):=more.foldl (fun acc kv=>putK acc kv.1 kv.2) kvs
noncomputable def Z3b(trs:List (TE×TE)):TE:=fun σ H Q=>∀p,H p=none→Zjr trs σ (upd H p (.dK [] 0)) fun ps H2=>H2 p=some (.dK [] 0)∧∃kvs:List (Key×V),ps=kvs.map (fun kv=>(kV kv.1,kv.2))∧kvs.length≤15∧∀ep,Q (.ref p) (upd H2 p (.dK (Zrs [] kvs) ep))
structure M1(X:Cx)(o:Expr)(m:Str)(apos:Pos)(e:Expr)(cpos:Pos):Prop where
 base:attributeBase o m X.env (eval o X.env)=eval o X.env
 few:((backTo cpos (starEach [e] X.env)).all (fun x=>!x.1)&&(backToKw cpos (keywordEach [] X.env)).all (fun x=>x.1.isSome)
  &&decide (([e]:List Expr).length+([]:List Keyword).length+(if([]:List Keyword).isEmpty then 0 else 1)<30))=true
 line:(apos.endLine==cpos.line)=true
 trees:backTo cpos (starEach [e] X.env)=[(false,eval e X.env)]
structure M2(X:Cx)(o:Expr)(m:Str)(apos:Pos)(e f:Expr)(cpos:Pos):Prop where
 base:attributeBase o m X.env (eval o X.env)=eval o X.env
 few:((backTo cpos (starEach [e,f] X.env)).all (fun x=>!x.1)&&(backToKw cpos (keywordEach [] X.env)).all (fun x=>x.1.isSome)
  &&decide (([e,f]:List Expr).length+([]:List Keyword).length+(if([]:List Keyword).isEmpty then 0 else 1)<30))=true
 line:(apos.endLine==cpos.line)=true
 trees:backTo cpos (starEach [e,f] X.env)=[(false,eval e X.env),(false,eval f X.env)]
noncomputable def IsD(H:Hp)(a:Addr):Prop:=(∃kvs,RdK H a kvs)∨∃kvs,RdT H a kvs
section
variable{X:Cx}{pins:List (Addr×Obj)}{σ:St}{H:Hp}{s:Shared}{a:Addr}{y d:V}{u r:Value}{o:Option V}{A:Around}{E:Value→Shared→Prop}
theorem Zv8{Q:Value→Shared→Prop}(hu:A.units+1<cLine)(I:Inv X pins σ H s)(g:DGet H a y o)(ry:RelV y u)(h:∀w' s',Inv X pins σ H s'→RelV (o.getD .non) w'→Q w' s'):
  wpAny (model X.prog X.w) A (call (.builtin "dict.get") [.ref a,u]) Q E s:=by
 rcases g with⟨kvs,k,e,ey,l⟩|⟨kvs,k,b,e,ey,eb,l⟩
 ·subst ey
  obtain⟨z,hd,vs,rel,dd⟩:=Ze1 I.hok e
  refine call_meetsIn PySem.F.slot_dict_get dd.typeIs PySem.F.entry_dict_get (PySem.F.args_dict_get_2 _ _) (meets_dict_get (Zm X.prog X.w) a (Zij ry) hd) ⟨_,dd.mapOf,h _ _ (I.tok _) ?_⟩
  rw[l]
  exact(rel.val k).getD rfl
 ·subst ey
  cases(show u=Value.ref b from ry)
  obtain⟨z,hd,xs,rel,dd⟩:=Zik I.hok e
  refine call_meetsIn PySem.F.slot_dict_get dd.typeIs PySem.F.entry_dict_get (PySem.F.args_dict_get_2 _ _) (meetsH_dict_get (tupleKind (Zm X.prog X.w)) a b hd) ⟨tupleKind_room_in1 hu,k,xs,Zd2 I.hok eb,dd,h _ _ (I.tok _) ?_⟩
  rw[l]
  exact(rel.val k).getD rfl
theorem Zv9{Q:Value→Shared→Prop}(hu:A.units+1<cLine)(I:Inv X pins σ H s)(g:DGet H a y o)(ry:RelV y u)(rd:RelV d r)(h:∀w' s',Inv X pins σ H s'→RelV (o.getD d) w'→Q w' s'):
  wpAny (model X.prog X.w) A (call (.builtin "dict.get") [.ref a,u,r]) Q E s:=by
 rcases g with⟨kvs,k,e,ey,l⟩|⟨kvs,k,b,e,ey,eb,l⟩
 ·subst ey
  obtain⟨z,hd,vs,rel,dd⟩:=Ze1 I.hok e
  refine call_meetsIn PySem.F.slot_dict_get dd.typeIs PySem.F.entry_dict_get (PySem.F.args_dict_get_3 _ _ _) (meets_dict_get_default (Zm X.prog X.w) a (Zij ry) hd r) ⟨_,dd.mapOf,h _ _ (I.tok _) ?_⟩
  rw[l]
  exact(rel.val k).getD rd
 ·subst ey
  cases(show u=Value.ref b from ry)
  obtain⟨z,hd,xs,rel,dd⟩:=Zik I.hok e
  refine call_meetsIn PySem.F.slot_dict_get dd.typeIs PySem.F.entry_dict_get (PySem.F.args_dict_get_3 _ _ _) (meetsH_dict_get_default (tupleKind (Zm X.prog X.w)) a b hd r) ⟨tupleKind_room_in1 hu,k,xs,Zd2 I.hok eb,dd,h _ _ (I.tok _) ?_⟩
  rw[l]
  exact(rel.val k).getD rd
end
noncomputable def Z1v(td ty:TE):TE:=fun σ H Q=>td σ H fun x H1=>∃a,x= .ref a∧IsD H1 a∧ty σ H1 fun y H2=>∃o,DGet H2 a y o∧Q (o.getD .non) H2
noncomputable def Z1w(td ty tx:TE):TE:=fun σ H Q=>td σ H fun x H1=>∃a,x= .ref a∧IsD H1 a∧ty σ H1 fun y H2=>tx σ H2 fun z H3=>∃o,DGet H3 a y o∧Q (o.getD z) H3
noncomputable def Z1x(td ty:TE):TE:=fun σ H Q=>td σ H fun x H1=>∃a,x= .ref a∧IsD H1 a∧ty σ H1 fun y H2=>∃kvs k v,HK H2 a kvs∧y=kV k∧valV kvs k=some v∧∀ep,Q v (upd H2 a (.dK (Zsy kvs k) ep))
noncomputable def Z1y(td ty tx:TE):TE:=fun σ H Q=>td σ H fun x H1=>∃a,x= .ref a∧IsD H1 a∧ty σ H1 fun y H2=>tx σ H2 fun z H3=>∃kvs k,HK H3 a kvs∧y=kV k∧
 (∀v ep,valV kvs k=some v→Q v (upd H3 a (.dK (Zsy kvs k) ep)))∧(valV kvs k=none→Q z H3)
section
variable{X:Cx}{o e f:Expr}{apos cpos:Pos}{td ty tx:TE}
end
section
variable{X:Cx}{pins:List (Addr×Obj)}{σ:St}{H:Hp}{s:Shared}{a:Addr}{kvs:List (Key×V)}{A:Around}{E:Value→Shared→Prop}
end
section
variable{X:Cx}{pins:List (Addr×Obj)}{σ:St}{H:Hp}{s:Shared}{a:Addr}{y:V}{u:Value}{A:Around}{E:Value→Shared→Prop}
end
end L2
namespace Att
open PySem PySem.W PySem.Calls PyProof.Rows
theorem Zd3{P:Params}{h:Heap}:∀(ns:List Int) (vs:List Value),WellAll P h vs (ns.map WData.int)→IntsAre vs ns:=by
 intro ns
 induction ns with
 |nil=>
  intro vs w
  rw[List.map_nil]at w
  cases w
  exact .nil
 |cons n ns ih=>
  intro vs w
  rw[List.map_cons]at w
  cases w with
  |cons a b=>
   cases a
   exact .cons _ _ (ih _ b)
theorem Zmu{l:OpenLaw}{n:Nat}(hn:l.most=some n){P:Params}{h:Heap}{args:List WData}{vals:List Value}
  (hpre:l.row.toRowW.claim.pre args=true) (hwl:WellAll P h vals args):
  ∃a vs ns,vals=[Value.ref a]∧args=[WData.list (ns.map WData.int)]∧h.get? a=some {cls:=.type "list",data:=.seq vs.toArray}∧IntsAre vs ns∧ns.length≤n:=by
 have hsh:WShape.hasAll [] args [.list .int]=true:=(pre_splitW hpre).1
 have hc:l.pre.holds [] {args:=args}=true:=(pre_splitW hpre).2
 obtain⟨d,r,rfl,h1,h2⟩:=hasAllW_cons hsh
 obtain rfl:=hasAllW_nil h2
 obtain⟨xs,rfl,h3⟩:=hasW_list h1
 obtain⟨ns,rfl⟩:=items_int h3
 have hlen:ns.length≤n:=by
  unfold OpenLaw.pre at hc
  have h4:(WTm.not (.lt (.lit (.int (n:Int))) (.len (.arg 0)))).holds [] {args:=[.list (ns.map .int)]}=true:=by
   have h4:=(holds_andW hc).1
   rw[hn]at h4
   exact h4
  have h5:=condW_of h4 (w_not (w_lt w_lit (w_len_list (w_arg rfl))))
  rw[List.length_map]at h5
  refine Nat.le_of_not_lt fun q=>?_
  have q':(n:Int)<((ns.length:Nat):Int):=by omega
  first
   | (rw[decide_eq_true q']at h5;exact absurd h5 (by decide))
   | (simp at h5;omega)
 cases hwl with
 |cons w1 w2=>
  cases w2
  cases w1 with
  |list ho hall=>exact⟨_,_,ns,rfl,rfl,ho,Zd3 ns _ hall,hlen⟩
theorem Zmv(l:OpenLaw)(args:List WData):l.row.toRowW.claim.post args (.bool true) args=true:=
 postW_of (r:=l.row.toRowW) (X:=(true==true))
  (show WShape.has [] (.bool true) .bool=true by first|rfl|decide|simp[WShape.has,WShape.arms,WShape.armsAll])
  (show(WTm.eq .res (.lit (.bool true))).value [] {args:=args,res:=some (.bool true),after:=args}=some (.bool (true==true))from w_eq_bool (w_res rfl) w_lit) rfl
theorem attach_call{l:OpenLaw}{n:Nat}{q:Program}{loose:List Str}{XP:(Str→Option Value)→Heap→Prop}{YP:World→Heap→Prop}{d:DefRec}
  (hn:l.most=some n) (hdf:d.params.defaults=[])
  (call:∀(w:World) (s₀ s₁:Shared) (mg mb:Str→Option Value) (fa:Addr) (o:Obj) (pm cd doc:Value) (a:Addr) (vs:List Value) (ns:List Int),
   Ground q loose [] XP w s₀ mg mb s₁.heap→YP w s₁.heap→
   s₁.heap.get? fa=some o→o.data= .func (docDef d.name d.params d.body d.scope pm cd doc)→s₁.heap.CodeRec cd d.name→mg d.name=some (.ref fa)→
   s₁.heap.get? a=some {cls:=.type "list",data:=.seq vs.toArray}→IntsAre vs ns→ns.length≤n→s₁.gens= #[]→
   codeAny (model l.prog w) callerA (.call (.ref fa) ⟨[.ref a],[]⟩) (fun r s'=>r= .ok (.ret (.bool true))∧OldK s₁.heap s'.heap∧s'.os=s₁.os∧AllBare s'.gens) s₁):
  WalkO q loose XP YP l.row.toRowW d [] (fun f vs=>PySem.call f vs):=by
 intro w s₀ s₁ mg mb G Y fa o pm cd doc dV kV ho hd hcd hD hmg hg args vals as hpre hlay hrd hwl hlo
 obtain rfl:dV= .none:=Dflts.none hD hdf
 obtain rfl:kV= .none:=Dflts.noKw hD
 obtain⟨a,vs,ns,rfl,rfl,hobj,hints,hlen⟩:=Zmu hn hpre hwl
 refine enter_call (codeAny_mono (call w s₀ s₁ mg mb fa o pm cd doc a vs ns G Y ho (fd_plain hd) hcd hmg hobj hints hlen hg) fun r s' hq=>?_)
 obtain⟨rfl,h2,h3,h4⟩:=hq
 exact⟨.inl ⟨.bool true,.bool true,[],rfl,fun _=>rfl,.bool true,Zmv l _,fun _=>⟨List.Pairwise.nil,fun _ hm=>(nomatch hm)⟩⟩,h2,h3,h4⟩
section
variable{prog:Program}{w:World}{A:Around}{E:Value→Shared→Prop}{s:Shared}{K:Frag}
noncomputable def Z1z(h:Heap):Heap:={h with objs:= #[]}
noncomputable def Z10(h:Heap)(L d:Addr):List (Addr×Obj):=(List.range h.objs.size).filterMap fun a=>if a=L∨a=d then none else(h.get? a).map fun o=>(a,o)
end
end Att
namespace L2
open PySem PySem.Spec PyProof.Rows
theorem Zg0:∀{vs:List Value} {ns:List Int},IntsAre vs ns→Vals (ns.map V.int) vs
 |_,_,.nil=>.nil
 |_,_,.cons n t h=>.cons ⟨t,rfl⟩ (Zg0 h)
noncomputable def Only(H:Hp):Prop:=∀b,H b=none∨∃o xs,H b=some (.frz o (.lst xs))
theorem Zpx {P : Program} {w : World} {K : PySem.W.Frag} {mg mb : Str → Option Value} {CX : CXT} {k : Nat} {fa a : Addr} {fd : FuncData} {x : Str} {sp : Sp} {s₁ : Shared} {vs : List Value} {ns : List Int}
    (KX : K.In s₁.heap) (hns : s₁.heap.Ns mainGlobals mg) (hb : s₁.heap.Ns builtinsNs mb) (hbb : ∀ x : Str, x ≠ "__name__" → mb x = bootBuiltins x) (hlim : s₁.heap.NoLimit) (hg : s₁.gens = #[])
    (ha : s₁.heap.get? a = some { cls := .type "list", data := .seq vs.toArray }) (hi : IntsAre vs ns) (hl : ns.length ≤ sizeLine) (hr : Room k callerA)
    (F : ∀ base : Heap, K.In base → base.Ns mainGlobals mg → FnOk P w K mg base CX k fa fd [x] sp) (hbind : ∀ (s : Shared) (u : Value), BindsTo s fd ⟨[u], []⟩ [(x, u)])
    (hsp : ∀ H : Hp, Only H → SqL K H a (ns.map V.int) → sp [.ref a] H (fun v _ => v = .bl true) fun _ _ _ => False)
    (hCX : ∀ H e s', CX [] H s₁ (fun _ _ _ => False) e s' → False) :
    codeAny (model P w) callerA (.call (.ref fa) ⟨[.ref a], []⟩) (fun r s' => r = .ok (.ret (.bool true)) ∧ OldK s₁.heap s'.heap ∧ s'.os = s₁.os ∧ AllBare s'.gens) s₁ := by
  have rv := Zg0 hi
  have lenV := hi.length
  -- from an abstract heap in which nothing but the script may be tracked
  have core : ∀ H : Hp, Only H → SqL K H a (ns.map V.int) → HOk P w H s₁.heap → (∀ b, H b ≠ none → b = a) → (H a ≠ none → K.lookup a = none) →
      codeAny (model P w) callerA (.call (.ref fa) ⟨[.ref a], []⟩) (fun r s' => r = .ok (.ret (.bool true)) ∧ OldK s₁.heap s'.heap ∧ s'.os = s₁.os ∧ AllBare s'.gens) s₁ := by
    intro H hO hS hok hA hK
    have base_of : ∀ {b : Addr} {o : Obj}, s₁.heap.get? b = some o → H b = none → (hidT s₁.heap H).get? b = some o := fun e n => Zpk e n
    have noA : ∀ {b : Addr} {o : Obj} {es : Array DictEntry} {ep : Nat}, s₁.heap.get? b = some o → o.data = .dict es ep → H b = none := fun {b o es ep} e d => by
      cases q : H b with
      | none => rfl
      | some u =>
        have e' : b = a := hA b (by rw [q]; simp)
        subst e'
        rw [ha] at e; cases e
        have d' : Data.seq vs.toArray _ = Data.dict es ep := d
        cases d'
    have nsK : ∀ {b : Addr} {m : Str → Option Value}, s₁.heap.Ns b m → (hidT s₁.heap H).Ns b m := fun {b m} ⟨o, es, ep, e, d, r⟩ => ⟨o, es, ep, base_of e (noA e d), d, r⟩
    have hKb : K.In (hidT s₁.heap H) := fun b o e => base_of (KX b o e) (by
      cases q : H b with
      | none => rfl
      | some u =>
        have e' : b = a := hA b (by rw [q]; simp)
        subst e'
        rw [hK (by rw [q]; simp)] at e; cases e)
    have hM : Mod K mg (hidT s₁.heap H) := ⟨hKb, nsK hns, ⟨mb, nsK hb, hbb⟩, let ⟨mc, h1, h2⟩ := hlim; ⟨mc, nsK h1, h2⟩⟩
    have e0 : Env0 P w K mg (hidT s₁.heap H) callerA [] s₁ H := ⟨rfl, hM, fun b o e => Zsm e, Nat.le_of_eq (Zl3 _ _), trivial, fun b hb => absurd (show b ∈ ([] : List Addr) from hb) (by simp), hok, .of_eq hg⟩
    refine codeAny_mono ((F _ hKb (nsK hns)).run callerA [] s₁ H ⟨[.ref a], []⟩ [.ref a] [.ref a] _ _ hr e0 (hbind s₁ (.ref a)) (.cons rfl .nil) (hsp H hO hS)) fun r s' h => ?_
    cases r with
    | error e => exact (hCX H e s' h).elim
    | ok fl =>
      cases fl with
      | next => exact False.elim h
      | brk => exact False.elim h
      | cont => exact False.elim h
      | ret u =>
        obtain ⟨v, H', os, bare, un, hok', r', q⟩ := h
        have q' : v = .bl true := q
        subst q'
        obtain rfl : u = Value.bool true := r'
        refine ⟨rfl, OldK.of_keep fun b o e => ?_, os, bare⟩
        cases q : H b with
        | none => exact un.keep b o e q (by intro z; exact absurd (show b ∈ ([] : List Addr) from z) (by simp)) (by simp)
        | some u =>
          rcases hO b with z | ⟨ob, xs, z⟩
          · rw [q] at z; cases z
          · have z2 := un.frzs b ob _ z
            obtain ⟨e1, _⟩ := hok b _ z
            obtain ⟨e2, _⟩ := hok' b _ z2
            rw [e] at e1; cases e1
            exact e2
  cases hk : K.lookup a with
  | some o =>
    -- the script is one of the module's own objects
    have e := KX a o hk
    rw [ha] at e
    cases e
    refine core (fun _ => none) (fun _ => .inl rfl) (.inr ⟨_, vs.toArray, _, hk, rfl, rfl, rfl, by rw [List.size_toArray, lenV]; exact hl, by simpa using rv⟩) (fun b u z => by have z' : (none : Option HO) = some u := z; cases z') (fun b z => absurd rfl z) fun z => absurd rfl z
  | none =>
    refine core (fun b => if b = a then some (.frz { cls := .type "list", data := .seq vs.toArray } (.lst (ns.map V.int))) else none) (fun b => ?_) (.inl (.inr ⟨{ cls := .type "list", data := .seq vs.toArray }, if_pos rfl⟩)) (fun b u z => ?_) (fun b z => ?_) fun _ => hk
    · by_cases hb : b = a
      · exact .inr ⟨_, _, if_pos hb⟩
      · exact .inl (if_neg hb)
    · by_cases hb : b = a
      · have z' := (if_pos hb).symm.trans z
        cases z'
        subst hb
        exact ⟨ha, by rw [List.length_map]; exact hl, vs, _, rv, ha⟩
      · have z' := (if_neg hb).symm.trans z
        cases z'
    · by_cases hb : b = a
      · exact hb
      · exact absurd (if_neg hb) z
end L2
namespace L2
open PySem PySem.Spec PyProof.Rows
noncomputable abbrev KOf{K:PySem.W.Frag}{h:Heap}(_:K.In h):PySem.W.Frag:=K
theorem Zs1{l:PySem.W.OpenLaw}{n k:Nat}{q:Program}{loose:List Str}{XP:(Str→Option Value)→Heap→Prop}{YP:World→Heap→Prop}{d:DefRec}{K:Params→PySem.W.Frag}{CX:World→CXT}{sp:World→Sp}{x:Str}
  (hn:l.most=some n) (hn2:n≤sizeLine) (hdf:d.params.defaults=[]) (hr:Room k callerA)
  (hY:∀(w:World) (h:Heap),YP w h→(K w.params).In h)
  (F:∀(w:World) (mg:Str→Option Value) (fa:Addr) (h:Heap),(K w.params).In h→h.Ns mainGlobals mg→mg d.name=some (.ref fa)→
   ∃fd:FuncData,(∀(s:Shared) (u:Value),BindsTo s fd ⟨[u],[]⟩ [(x,u)])∧
    ∀base:Heap,(K w.params).In base→base.Ns mainGlobals mg→FnOk l.prog w (K w.params) mg base (CX w) k fa fd [x] (sp w))
  (hsp:∀(w:World) (H:Hp) (a:Addr) (ns:List Int),ns.length≤n→Only H→SqL (K w.params) H a (ns.map V.int)→sp w [.ref a] H (fun v _=>v= .bl true) fun _ _ _=>False)
  (hCX:∀(w:World) (H:Hp) (s:Shared) (e:Value) (s':Shared),CX w [] H s (fun _ _ _=>False) e s'→False):
  PySem.W.WalkO q loose XP YP l.row.toRowW d [] (fun f vs=>PySem.call f vs):=by
 refine Att.attach_call hn hdf fun w s₀ s₁ mg mb fa o pm cd doc a vs ns G Y ho hd hcd hmg hobj hints hlen hg=>?_
 have KX:=hY w _ Y
 obtain⟨fd,hb,hF⟩:=F w mg fa _ KX G.T.g hmg
 exact Zpx KX G.T.g G.T.b G.T.builtins G.T.nolimit hg hobj hints (Nat.le_trans hlen hn2) hr hF hb (fun H hO hS=>hsp w H a ns hlen hO hS) fun H e s'=>hCX w H s₁ e s'
theorem Zpy{l:PySem.W.OpenLaw}{n k:Nat}{q:Program}{loose:List Str}{XP:(Str→Option Value)→Heap→Prop}{YP:World→Heap→Prop}{d:DefRec}{K:Params→PySem.W.Frag}{CX:CXT}{sp:PySem.W.Frag→Sp}{x:Str}
  (hn:l.most=some n) (hn2:n≤sizeLine) (hdf:d.params.defaults=[]) (hr:Room k callerA)
  (hY:∀(w:World) (h:Heap),YP w h→(K w.params).In h)
  (F:∀(w:World) (mg:Str→Option Value) (fa:Addr) (h:Heap),(K w.params).In h→h.Ns mainGlobals mg→mg d.name=some (.ref fa)→
   ∃fd:FuncData,(∀(s:Shared) (u:Value),BindsTo s fd ⟨[u],[]⟩ [(x,u)])∧
    ∀base:Heap,(K w.params).In base→base.Ns mainGlobals mg→FnOk l.prog w (K w.params) mg base CX k fa fd [x] (sp (K w.params)))
  (hsp:∀(K:PySem.W.Frag) (H:Hp) (a:Addr) (ns:List Int),ns.length≤n→Only H→SqL K H a (ns.map V.int)→sp K [.ref a] H (fun v _=>v= .bl true) fun _ _ _=>False)
  (hCX:∀(H:Hp) (s:Shared) (e:Value) (s':Shared),CX [] H s (fun _ _ _=>False) e s'→False):
  PySem.W.WalkO q loose XP YP l.row.toRowW d [] (fun f vs=>PySem.call f vs):=
 Zs1 (K:=K) (CX:=fun _=>CX) (sp:=fun w=>sp (K w.params)) hn hn2 hdf hr hY F (fun w H a ns h1 h2 h3=>hsp (K w.params) H a ns h1 h2 h3) fun _ H s e s'=>hCX H s e s'
end L2
namespace L2
open PySem PySem.Spec PyProof.Rows
noncomputable def Zzl(s:Stmt)(j:Nat):Stmt:=match s with
 | .ClassDef _ _ _ body _ _ _ _ _ _ _=>body.getD j (.Pass ⟨0,0,0,0⟩)
 |_=>.Pass ⟨0,0,0,0⟩
noncomputable def Zc6(s:Stmt):Arguments:=match s with
 | .FunctionDef _ a _ _ _ _ _ _ _ _=>a
 |_=>{posonlyargs:=[],args:=[],vararg:=none,kwonlyargs:=[],kw_defaults:=[],kwarg:=none,defaults:=[]}
noncomputable def Zbm(s:Stmt):List Stmt:=match s with
 | .FunctionDef _ _ b _ _ _ _ _ _ _=>b
 |_=>[]
noncomputable def Zg(s:Stmt):Scope:=match s with
 | .FunctionDef _ _ _ _ _ _ sc _ _ _=>sc
 |_=>{kind:=.function,names:=[],isGenerator:=false,isCoroutine:=false}
noncomputable abbrev CX0:CXT:=fun _ _ _ _ _ _=>False
noncomputable abbrev E0:XK:=fun _ _ _=>False
theorem Zs2{X:Cx}:Zmh CX0 X E0:=fun _ _ _ _ _ _ _ h=>h.elim
structure Fun(K:PySem.W.Frag)(x qual:Str)(st:Stmt)(f:Addr)(fd:FuncData):Prop where
 ex:∃(oc:Value) (od:Option Addr) (kV doc pm:Value) (an:Option Addr) (cdv ct:Value) (osl:Array (Option Value)),
  fd=PySem.W.fnOf x qual (Zc6 st) (Zbm st) (Zg st) .none kV doc pm an cdv ct∧K.lookup f=some ⟨oc,od,.func fd,osl⟩∧PySem.W.codeIn K cdv qual=true
 kp:PySem.W.keepIn K (.ref f)=true
section
variable{P:Program}{w:World}{K:PySem.W.Frag}{mg:Str→Option Value}{base:Heap}
theorem Fun.ok{x qual:Str}{st:Stmt}{f:Addr}{fd:FuncData}{N ps:List Str}{k:Nat}{sp:Sp}(F:Fun K x qual st f fd)(S:FnScope N ps (Zg st))(len:∀vs H Q E,sp vs H Q E→vs.length=ps.length)
  (hbody:∀(cdv:Value) (A:Around) (outer:List Env) (s:Shared) (H:Hp) (vs:List V) (Q:VK) (E:XK),Room k (A.deeper (envOfC qual (Zg st) s.heap.objs.size f cdv))→sp vs H Q E→
   ∃t,PSs (cxOf CX0 P w K mg base N qual (Zg st) f cdv A outer s H E).nox (Zbm st) t∧t {nx:=fun _ H'=>Q .non H',rt:=Q} (start N vs) H):FnOk P w K mg base CX0 (k+1) f fd ps sp:=by
 obtain⟨oc,od,kV,doc,pm,an,cdv,ct,osl,rfl,lk,hcd⟩:=F.ex
 refine Zzh lk hcd S len fun A outer s H vs Q E hr hsp=>?_
 obtain⟨t,h,q⟩:=hbody cdv A outer s H vs Q E hr hsp
 exact⟨t,h.nox,q⟩
theorem Fun.binds{x qual:Str}{st:Stmt}{f:Addr}{fd:FuncData}{ps:List Str}(F:Fun K x qual st f fd)
  (h:∀(kV doc pm:Value) (an:Option Addr) (cdv ct:Value) (us:List Value),us.length=ps.length→bindArgs (PySem.W.fnOf x qual (Zc6 st) (Zbm st) (Zg st) .none kV doc pm an cdv ct) ⟨us,[]⟩=pure (ps.zip us)):Zax K fd ps []:=by
 obtain⟨oc,od,kV,doc,pm,an,cdv,ct,osl,rfl,lk,hcd⟩:=F.ex
 exact .all (h kV doc pm an cdv ct)
theorem Za5{x qual:Str}{st:Stmt}{f:Addr}{oc:Value}{od an:Option Addr}{osl:Array (Option Value)}{kV doc pm cdv ct:Value}(l:K.lookup f=some ⟨oc,od,.func (PySem.W.fnOf x qual (Zc6 st) (Zbm st) (Zg st) .none kV doc pm an cdv ct),osl⟩)
  (c:PySem.W.codeIn K cdv qual=true) (k:PySem.W.keepIn K (.ref f)=true):Fun K x qual st f (PySem.W.fnOf x qual (Zc6 st) (Zbm st) (Zg st) .none kV doc pm an cdv ct):=⟨⟨oc,od,kV,doc,pm,an,cdv,ct,osl,rfl,l,c⟩,k⟩
end
theorem Zwa{A:Around}{k:Nat}(hr:Room k A):A.units+1<cLine:=Nat.lt_of_le_of_lt (Nat.add_le_add_left (by decide:1≤64) _) hr.units
section
variable{X:Cx}
theorem Zmw:Zcu X (.builtin "len") (fun xs H Q=>∃a kvs,xs=[V.ref a]∧HK H a kvs∧Q (.int kvs.length) H):=by
 intro pins s σ H xs us Q I r h
 obtain⟨a,kvs,rfl,ha,q⟩:=h
 obtain⟨u,rfl,ru⟩:=Zcv r
 cases ru
 exact Zzj I ha.rd fun t s' I'=>⟨.int kvs.length,H,I',⟨t,rfl⟩,q⟩
end
noncomputable def Same(H H':Hp):Prop:=∀b o,H b=some o→H' b=some o
theorem Same.refl(H:Hp):Same H H:=fun _ _ h=>h
theorem Same.trans{H H1 H2:Hp}(a:Same H H1)(b:Same H1 H2):Same H H2:=fun c o h=>b c o (a c o h)
theorem Same.free{H H':Hp}(e:Same H H'){l:Addr}(h:H' l=Option.none):H l=Option.none:=by
 cases q:H l with
 |none=>rfl
 |some o=>
  rw[e l o q]at h
  cases h
section
variable{κ:Type}[DecidableEq κ]
end
end L2
namespace L2
open PySem PySem.Spec PyProof.Rows
theorem PE.imp{X:Cx}{e:Expr}{t t':TE}(h:PE X e t)(w:∀σ H Q,t' σ H Q→t σ H Q):PE X e t':=fun pins s σ H Q I q=>h pins s σ H Q I (w σ H Q q)
theorem PT.imp{X:Cx}{e:Expr}{t t':TT}(h:PT X e t)(w:∀σ H Q,t' σ H Q→t σ H Q):PT X e t':=fun pins s σ H Q I q=>h pins s σ H Q I (w σ H Q q)
theorem PW.imp{X:Cx}{e:Expr}{t t':TT}(h:PW X e t)(w:∀σ H Q,t' σ H Q→t σ H Q):PW X e t':=fun wh pins s σ H Q I q=>h wh pins s σ H Q I (w σ H Q q)
theorem PA.imp{X:Cx}{e:List Expr}{t t':TA}(h:PA X e t)(w:∀σ H Q,t' σ H Q→t σ H Q):PA X e t':=fun pos pins s σ H Q I q=>h pos pins s σ H Q I (w σ H Q q)
theorem PS.imp{X:Cx}{e:Stmt}{t t':TS}(h:PS X e t)(w:∀D σ H,t' D σ H→t D σ H):PS X e t':=fun pins s σ H D I q=>h pins s σ H D I (w D σ H q)
theorem PSs.imp{X:Cx}{e:List Stmt}{t t':TS}(h:PSs X e t)(w:∀D σ H,t' D σ H→t D σ H):PSs X e t':=fun pins s σ H D I q=>h pins s σ H D I (w D σ H q)
theorem PG.imp{X:Cx}{e:Expr}{t t':TG}(h:PG X e t)(w:∀v σ H Q,t' v σ H Q→t v σ H Q):PG X e t':=fun pins s σ H v u Q I r q=>h pins s σ H v u Q I r (w v σ H Q q)
theorem PGs.imp{X:Cx}{e:List Expr}{t t':TGs}(h:PGs X e t)(w:∀v σ H Q,t' v σ H Q→t v σ H Q):PGs X e t':=fun pins s σ H vs us Q I r q=>h pins s σ H vs us Q I r (w vs σ H Q q)
theorem PI.imp{X:Cx}{tg e:Expr}{t t':TI}(h:PI X tg e t)(w:∀σ H R,t' σ H R→t σ H R):PI X tg e t':=fun pins s σ H R I q=>h pins s σ H R I (w σ H R q)
noncomputable def clOf(cells:List (Str×Addr)):List (Str×NameKind)→List (Str×Addr)→List (Str×Addr)
 | [],cs=>cs
 | (n,k)::r,cs=>clOf cells r (if k= .free then(n,(cells.lookup n).getD 0)::cs else cs)
theorem Zc7{env:Env}:∀(names:List (Str×NameKind)) (cs:List (Str×Addr)),(∀y∈names,y.2= .free→∃c,env.cells.lookup y.1=some c)→
    (forIn names cs (fun x r=>if(x.2==NameKind.free)=true then do let a←cellOf env x.1;pure (ForInStep.yield ((x.1,a)::r))else pure (ForInStep.yield r)):Sem (List (Str×Addr)))=pure (clOf env.cells names cs)
  | [],cs,_=>by rw[List.forIn_nil];rfl
  | (n,k)::r,cs,h=>by
    rw[List.forIn_cons]
    by_cases hk:k= .free
    · obtain⟨c,hc⟩:=h (n,k) List.mem_cons_self hk
      subst hk
      have e1:cellOf env n=pure c:=by unfold cellOf;rw[hc]
      show((if(NameKind.free==NameKind.free)=true then(cellOf env n >>=fun a=>pure (ForInStep.yield ((n,a)::cs)))else pure (ForInStep.yield cs)) >>=fun s=>_)=_
      rw[if_pos (show(NameKind.free==NameKind.free)=true by decide),e1]
      show(forIn r ((n,c)::cs) _:Sem (List (Str×Addr)))=_
      rw[Zc7 r _ fun y hy=>h y (List.mem_cons_of_mem _ hy)]
      show _=pure (clOf env.cells r (if NameKind.free=NameKind.free then(n,(env.cells.lookup n).getD 0)::cs else cs))
      rw[if_pos rfl,hc]
      rfl
    · have hb:(k==NameKind.free)=false:=by simpa using hk
      show((if(k==NameKind.free)=true then(cellOf env n >>=fun a=>pure (ForInStep.yield ((n,a)::cs)))else pure (ForInStep.yield cs)) >>=fun s=>_)=_
      rw[hb,if_neg Bool.false_ne_true]
      show(forIn r cs _:Sem (List (Str×Addr)))=_
      rw[Zc7 r _ fun y hy=>h y (List.mem_cons_of_mem _ hy)]
      show _=pure (clOf env.cells r (if k=NameKind.free then _ else cs))
      rw[if_neg hk]
theorem Zfn{scope:Scope}{env:Env}(h:∀y∈scope.names,y.2= .free→∃c,env.cells.lookup y.1=some c):closureFor scope env=pure (clOf env.cells scope.names []):=by
 simp only[closureFor]
 rw[Zc7 scope.names [] h]
 rfl
theorem Zjs{cells:List (Str×Addr)}{x:Str}{c:Addr}:∀{names:List (Str×NameKind)} {cs:List (Str×Addr)},(∀y∈names,y.2= .free→∃c,cells.lookup y.1=some c)→
    (cs.lookup x=some c→cells.lookup x=some c)→(clOf cells names cs).lookup x=some c→cells.lookup x=some c
  | [],_,_,h0,e=>h0 e
  | (n,k)::r,cs,h,h0,e=>by
    refine Zjs (names:=r) (fun y hy=>h y (List.mem_cons_of_mem _ hy)) ?_ e
    intro e'
    by_cases hk:k= .free
    · rw[if_pos hk]at e'
      obtain⟨c',hc⟩:=h (n,k) List.mem_cons_self hk
      rw[hc]at e'
      by_cases hx:x==n
      · simp only[List.lookup_cons,hx]at e'
        cases e'
        have:x=n:=by simpa using hx
        rw[this];exact hc
      · have hx':(x==n)=false:=by simpa using hx
        simp only[List.lookup_cons,hx']at e'
        exact h0 e'
    · rw[if_neg hk]at e';exact h0 e'
theorem Zg1{cells:List (Str×Addr)}{x:Str}:∀{names:List (Str×NameKind)} {cs:List (Str×Addr)},(∃c,cs.lookup x=some c)→∃c,(clOf cells names cs).lookup x=some c
  | [],_,h=>h
  | (n,k)::r,cs,⟨c,h⟩=>by
    refine Zg1 (names:=r) ?_
    by_cases hk:k= .free
    · rw[if_pos hk]
      by_cases hx:x==n
      · exact⟨(cells.lookup n).getD 0,by simp only[List.lookup_cons,hx]⟩
      · have hx':(x==n)=false:=by simpa using hx
        exact⟨c,by simp only[List.lookup_cons,hx'];exact h⟩
    · rw[if_neg hk];exact⟨c,h⟩
theorem Zdn{cells:List (Str×Addr)}{x:Str}:∀{names:List (Str×NameKind)} {cs:List (Str×Addr)},(x,NameKind.free)∈names→∃c,(clOf cells names cs).lookup x=some c
  | [],_,h=>nomatch h
  | (n,k)::r,cs,h=>by
    rcases List.mem_cons.mp h with e|e
    · cases e
      refine Zg1 (names:=r) ⟨(cells.lookup x).getD 0,?_⟩
      rw[if_pos rfl]
      simp[List.lookup_cons]
    · exact Zdn (names:=r) e
noncomputable def rlF(env:Env):Str×NameKind→Str×NameKind:=fun(n,k)=>if(k==NameKind.free&&env.scope.kind== .function&&env.kindOf n==some .cell)then(n,NameKind.cell)else(n,k)
theorem Zim(env:Env)(p:Str×NameKind):(rlF env p).1=p.1:=by
 obtain⟨n,k⟩:=p
 unfold rlF
 dsimp only
 split<;> rfl
theorem Zbn{f:Str×NameKind→Str×NameKind}(h:∀p,(f p).1=p.1)(x:Str):∀names:List (Str×NameKind),(names.map f).lookup x=(names.lookup x).map fun k=>(f (x,k)).2
  | []=>rfl
  | (n,k)::r=>by
    have ih:=Zbn h x r
    have e:f (n,k)=(n,(f (n,k)).2):=Prod.ext (h (n,k)) rfl
    rw[List.map_cons,e,List.lookup_cons,List.lookup_cons]
    cases hx:x==n with
    |true=>
      have:x=n:=by simpa using hx
      subst this
      rfl
    |false=>exact ih
theorem Ze6{x:Str}{k:NameKind}:∀{names:List (Str×NameKind)},names.lookup x=some k→(x,k)∈names
  | [],h=>by simp at h
  | (n,k')::r,h=>by
    rw[List.lookup_cons]at h
    cases hx:x==n with
    |true=>
      rw[hx]at h
      have:x=n:=by simpa using hx
      subst this
      cases h
      exact List.mem_cons_self
    |false=>rw[hx]at h;exact List.mem_cons_of_mem _ (Ze6 h)
theorem Zby{env:Env}{names:List (Str×NameKind)}{x:Str}{kk:NameKind}(hn:∀y∈names,y.2≠.cell)(hk:kk= .cell∨kk= .free)(h:(names.map (rlF env)).lookup x=some kk):(x,NameKind.free)∈names:=by
 rw[Zbn (Zim env)]at h
 obtain⟨k,h1,h2⟩:=Option.map_eq_some_iff.mp h
 have hm:=Ze6 h1
 have hc:k≠.cell:=hn _ hm
 by_cases hf:k= .free
 ·subst hf;exact hm
 ·exfalso
  have hb:(k==NameKind.free)=false:=by simpa using hf
  unfold rlF at h2
  simp only[hb,Bool.false_and,Bool.false_eq_true,if_false]at h2
  rcases hk with e|e
  ·exact hc (h2.trans e)
  ·exact hf (h2.trans e)
inductive BSrc where
 |own|cap (j:Nat)|acc
noncomputable def Zwb(σ:St)(acc:Addr):BSrc→Option V
 | .own=>none
 | .cap j=>(σ[j]?).join
 | .acc=>some (.ref acc)
noncomputable def bSt(src:List BSrc)(σ:St)(acc:Addr):St:=src.map (Zwb σ acc)
noncomputable abbrev Cx.block(X:Cx)(N':List Str)(scope:Scope)(C:Addr)(s₀:Shared)(H₀:Hp)(ex:List Addr):Cx:=
 {X with N:=N',env:=compEnvC scope (clOf X.env.cells scope.names []) C X.env,s₀:=s₀,H₀:=H₀,outer:=X.stack,stack:=X.stack,ex:=ex,fn:=fun _=>false,pn:=[],xe:=fun _ _=>False}
structure CompScope(X:Cx)(N':List Str)(scope:Scope)(src:List BSrc):Prop where
 kind:scope.kind= .function
 nocell:∀y∈scope.names,y.2≠.cell
 names:∀y∈scope.names,y.2= .local→scope.names.lookup y.1=some .local
 free:∀y∈scope.names,y.2= .free→X.env.kindOf y.1=some .cell∨X.env.kindOf y.1=some .free
 len:src.length=N'.length
 cap:∀(k j:Nat) (x:Str),src[k]? =some (.cap j)→N'[k]? =some x→X.N[j]? =some x∧(X.env.kindOf x=some .cell∨X.env.kindOf x=some .free)∧scope.names.lookup x=some .free
 acc:∀(k:Nat) (x:Str),src[k]? =some .acc→N'[k]? =some x→scope.names.lookup x=none
theorem Zcj{env:Env}{names:List (Str×NameKind)}{x:Str}(h:names.lookup x=none):(names.map (rlF env)).lookup x=none:=by
 rw[Zbn (Zim env),h];rfl
theorem Zck{env:Env}{names:List (Str×NameKind)}{x:Str}(h:names.lookup x=some .free):(names.map (rlF env)).lookup x=some .cell∨(names.map (rlF env)).lookup x=some .free:=by
 rw[Zbn (Zim env),h]
 unfold rlF
 dsimp only[Option.map]
 split
 ·exact .inl rfl
 ·exact .inr rfl
section
variable{X:Cx}{N':List Str}{scope:Scope}{src:List BSrc}{pins:List (Addr×Obj)}{σ:St}{H:Hp}{s:Shared}{C acc:Addr}{fp:List Addr}
theorem Zin{h1:Heap}{tk:Nat}(S:CompScope X N' scope src)(I:Inv X pins σ H s)(hC:C=s.heap.objs.size)(hf:∀b∈fp,FpOk X pins H b)(hfo:∀b∈fp,∃o,s.heap.get? b=some o)
  (hns:h1.Ns C fun _=>none) (hk:∀b o,s.heap.get? b=some o→h1.get? b=some o):
  Inv (X.block N' scope C s H fp) [] (bSt src σ acc) H {s with heap:=h1,toks:=tk}:=by
 have cellf:∀y∈scope.names,y.2= .free→∃c,X.env.cells.lookup y.1=some c:=fun y hy e=>I.ok.has y.1 (S.free y hy e)
 have sub:∀x c,(clOf X.env.cells scope.names []).lookup x=some c→X.env.cells.lookup x=some c:=fun x c e=>Zjs cellf (fun h=>by simp at h) e
 have gt:∀b,b<s.heap.objs.size→b≠C:=fun b hb e=>by rw[e,hC]at hb;exact Nat.lt_irrefl _ hb
 refine⟨⟨I.ok.mod,S.kind,I.ok.glob,I.ok.blt,by rw[hC];exact Nat.le_refl _,fun x y c h1 h2=>I.ok.inj x y c (sub x c h1) (sub y c h2),fun x hx=>?_,fun x c h=>absurd h Bool.false_ne_true,I.ok.hd,I.ok.frames,.inl rfl,fun b hb=>?_,I.bs,
  Nat.le_trans I.ok.bsz I.sz,fun b o e hb=>?_,fun b hb hs=>?_,I.stack,I.stkFree⟩,rfl,I.bare,Un.kept hk,⟨_,hns,fun i x v e1 e2 e3=>?_⟩,fun x c e=>?_,?_,fun x c e=>I.freeC x c (sub x c e),fun p hp=>?_,I.hok.kept hk,?_⟩
 ·rcases hx with hx|hx
  ·exact Zdn (Zby S.nocell (.inl rfl) hx)
  ·exact Zdn (Zby S.nocell (.inr rfl) hx)
 ·obtain⟨f0,f1,f2,f3,f4,f5⟩:=hf b hb
  refine⟨?_,fun x c e=>f4 x c (sub x c e)⟩
  show b≠C
  obtain⟨o,ho⟩:=hfo b hb
  exact gt b (Heap.lt_size ho)
 ·obtain⟨f0,f1,f2,f3,f4,f5⟩:=hf b hb
  rcases f3 with z|z
  ·exact I.ok.noex b o e z
  ·exact absurd (Nat.lt_of_lt_of_le (Heap.lt_size e) (Nat.le_trans I.ok.bsz z)) (Nat.lt_irrefl _)
 ·obtain⟨f0,f1,f2,f3,f4,f5⟩:=hf b hb
  rcases List.mem_cons.mp (I.stkSub b hs)with z|z
  ·exact f1 z
  ·exact f2 z
 ·have hsrc:∃q,src[i]? =some q:=by
   cases q:src[i]? with
   |some q0=>exact⟨q0,rfl⟩
   |none=>
    have e2':(bSt src σ acc)[i]? =some (some v):=e2
    unfold bSt at e2'
    rw[List.getElem?_map,q]at e2';cases e2'
  obtain⟨q,hq⟩:=hsrc
  have e2':(bSt src σ acc)[i]? =some (some v):=e2
  unfold bSt at e2'
  rw[List.getElem?_map,hq]at e2'
  have e2'':Zwb σ acc q=some v:=Option.some.inj e2'
  cases q with
  |own=>cases e2''
  |acc=>
   exfalso
   have hno:=Zcj (env:=X.env) (S.acc i x hq e1)
   have hno':(relabel scope X.env).names.lookup x=none:=hno
   have e3':Vis (relabel scope X.env) x:=e3
   rcases e3' with z|z|z
   ·rw[hno']at z;cases z
   ·rw[hno']at z;cases z
   ·rw[hno']at z;cases z
  |cap j=>
   obtain⟨hj,hkind,hfr⟩:=S.cap i j x hq e1
   have hσ:σ[j]? =some (some v):=by
    have e4:(σ[j]?).join=some v:=e2''
    cases r:σ[j]? with
    |none=>rw[r]at e4;cases e4
    |some o=>rw[r]at e4;cases o with
     |none=>cases e4
     |some w'=>cases e4;rfl
   obtain⟨m,hn,hl⟩:=I.loc
   obtain⟨u,ru,l⟩:=hl j x v hj hσ (by rcases hkind with z|z;exact .inr (.inl z);exact .inr (.inr z))
   refine⟨u,ru,?_⟩
   rcases l with⟨z,_⟩|⟨_,c,hc,hcell⟩
   ·rcases hkind with y|y
    ·rw[y]at z;cases z
    ·rw[y]at z;cases z
   ·have e3':Vis (relabel scope X.env) x:=e3
    have fin:∀kk,kk= .cell∨kk= .free→(relabel scope X.env).names.lookup x=some kk→Look (X.block N' scope C s H fp).env h1 (fun _=>none) x u:=fun kk hkk hx=>by
     obtain⟨c',hc'⟩:=Zdn (cells:=X.env.cells) (cs:=[]) (Zby S.nocell hkk hx)
     have:=sub x c' hc'
     rw[hc]at this;cases this
     obtain⟨oc,hoc,hocd⟩:=hcell
     refine .inr ⟨?_,c,hc',oc,hk c oc hoc,hocd⟩
     rcases hkk with y|y
     ·subst y;exact .inl hx
     ·subst y;exact .inr hx
    rcases e3' with z|z|z
    ·exfalso
     have z':(relabel scope X.env).names.lookup x=some .local:=z
     rcases Zck (env:=X.env) hfr with y|y
     ·have y':(relabel scope X.env).names.lookup x=some .cell:=y
      rw[z']at y';cases y'
     ·have y':(relabel scope X.env).names.lookup x=some .free:=y
      rw[z']at y';cases y'
    ·exact fin .cell (.inl rfl) z
    ·exact fin .free (.inr rfl) z
 ·obtain⟨v,oc,hoc,hocd⟩:=I.cell x c (sub x c e)
  exact⟨v,oc,hk c oc hoc,hocd⟩
 ·show H C=none
  rw[hC];exact I.hok.fresh (Nat.le_refl _)
 ·have hp':p∈([]:List (Addr×Obj)):=by simpa using hp
  exact nomatch hp'
 ·show(bSt src σ acc).length=N'.length
  unfold bSt
  rw[List.length_map];exact S.len
noncomputable def Zwc(src:List BSrc)(wi:TI)(g:TG)(tt:TT)(te:TE):TE:=fun σ H Q=>wi σ H fun J H1=>∀acc,H1 acc=none→
 ∃W:Nat→Nat→St→Hp→Prop,(∃m,W 0 m (bSt src σ acc) (upd H1 acc (.lst [])))∧∀i m σ' H,W i m σ' H→(J.stop i H∧Q (.ref acc) H)∨
  (J.go i H∧∀x H',J.yld i H x H'→g x σ' H' fun σ2 H2=>tt σ2 H2 fun b H3=>if b=true then te σ2 H3 fun y H4=>Zc5 (.ref acc) [y] H4 fun _ H5=>∃m',m'<m∧W (i+1) m' σ2 H5 else∃m',m'<m∧W (i+1) m' σ2 H3)
noncomputable def PTs(X:Cx)(ifs:List Expr)(t:TT):Prop:=
 ∀(pins:List (Addr×Obj)) (s:Shared) (σ:St) (H:Hp) (Q:Bool→Hp→Prop),Inv X pins σ H s→t σ H Q→
  wpAny (model X.prog X.w) X.A (forIn ifs true fun c r=>if r=true then do let ok←isTrue c X.env (eval c X.env);pure (ForInStep.yield ok)else pure (ForInStep.yield r)) (TP X pins σ Q) X.xe s
noncomputable def Zzm:TT:=fun _ H Q=>Q true H
theorem Zs3:PTs X [] Zzm:=fun _ s σ H Q I h=>wpAny_tests_nil ⟨H,I,h⟩
theorem Zmx{prog:Program}{w:World}{A:Around}{s:Shared}{elt target iter:Expr}{ifs:List Expr}{scope:Scope}{pos:Pos}{it acc:Value}{env:Env}{R:Result→Shared→Prop}(I:Nat→Shared→Prop)
  (turn:∀n s,I n s→wpAny (model prog w) A (pyNext it) (fun r s₁=>match r with
   |none=>R (.ok .next) s₁
   |some v=>wpAny (model prog w) A (letOwnedTupleGo target it v) (fun _ s₀=>wpAny (model prog w) A (assign target env v) (fun _ s₂=>
     wpAny (model prog w) A (forIn ifs true fun c r=>if r=true then do let ok←isTrue c env (eval c env);pure (ForInStep.yield ok)else pure (ForInStep.yield r)) (fun ok s₃=>if ok=true then wpAny (model prog w) A (eval elt env) (fun x s₄=>
      wpAny (model prog w) A (call (.builtin "list.append") [acc,x]) (fun _ s₅=>∃m,m<n∧I m s₅) (fun _ _=>False) s₄) (fun _ _=>False) s₃
      else∃m,m<n∧I m s₃) (fun _ _=>False) s₂)
     (fun _ _=>False) s₀) (fun _ _=>False) s₁) (fun _ _=>False) s)
  (n:Nat) (h:I n s):codeAny (model prog w) A (.compLoop (.ListComp elt [⟨target,iter,ifs,0⟩] scope pos) 0 it acc env) R s:=by
 refine codeAny_loop rfl I (fun n s hI=>?_) n h
 show wpAny _ A ((compTurn (.ListComp elt [⟨target,iter,ifs,0⟩] scope pos) 0 it acc env).onRaise (fun x=>do noteFrame x env;theTreesLotGoes x)) _ _ s
 refine wpAny_noted ?_
 rw[compTurn_list]
 refine wpAny_bind (wpAny_standAt (wpAny_bind (wpAny_mono (turn n s hI) (fun r s₁ h₁=>?_) fun _ _ f=>f.elim)))
 cases r with
 |none=>exact wpAny_pure h₁
 |some v=>
  refine wpAny_bind (wpAny_mono h₁ (fun _ s₀ h₀'=>?_) fun _ _ f=>f.elim)
  refine wpAny_bind (wpAny_mono h₀' (fun _ s₂ h₂=>?_) fun _ _ f=>f.elim)
  refine wpAny_bind (wpAny_mono h₂ (fun okb s₃ h₃=>?_) fun _ _ f=>f.elim)
  cases okb with
  |false=>exact wpAny_pure ⟨rfl,h₃⟩
  |true=>exact wpAny_bind (wpAny_bind (wpAny_mono h₃ (fun x s₄ h₄=>wpAny_bind (wpAny_mono h₄ (fun _ s₅ h₅=>wpAny_pure (wpAny_pure ⟨rfl,h₅⟩)) fun _ _ f=>f.elim)) fun _ _ f=>f.elim))
theorem Zlb{tg elt iter:Expr}{ifs:List Expr}{pos:Pos}{g:TG}{tt:TT}{te:TE}{it:Addr}{tn:Nat→Heap→Prop}{J:It}{Q:VK}{RR:Value→Addr→Result→Shared→Prop}{E:Value→Shared→Prop}
  (hc:X.calm=true) (S:CompScope X N' scope src)
  (hg:∀(C:Addr) (s₀:Shared) (H₀:Hp) (ex:List Addr),PG (X.block N' scope C s₀ H₀ ex) tg g)
  (ht:∀(C:Addr) (s₀:Shared) (H₀:Hp) (ex:List Addr),PTs (X.block N' scope C s₀ H₀ ex) ifs tt)
  (he:∀(C:Addr) (s₀:Shared) (H₀:Hp) (ex:List Addr),PE (X.block N' scope C s₀ H₀ ex) elt te)
  (I:Inv X pins σ H s) (T:Turn X.prog X.w X.K tg J fp it tn) (st:tn 0 s.heap) (hf:∀b∈fp,FpOk X pins H b)
  (q:∀acc,H acc=none→∃W:Nat→Nat→St→Hp→Prop,(∃m,W 0 m (bSt src σ acc) (upd H acc (.lst [])))∧∀i m σ' H,W i m σ' H→(J.stop i H∧Q (.ref acc) H)∨
   (J.go i H∧∀x H',J.yld i H x H'→g x σ' H' fun σ2 H2=>tt σ2 H2 fun b H3=>if b=true then te σ2 H3 fun y H4=>Zc5 (.ref acc) [y] H4 fun _ H5=>∃m',m'<m∧W (i+1) m' σ2 H5 else∃m',m'<m∧W (i+1) m' σ2 H3))
  (hRR:∀(acc C:Addr) (s':Shared) (H':Hp) (m:Str→Option Value),Inv X pins σ H' s'→Q (.ref acc) H'→s'.heap.Ns C m→H' C=none→C≠X.env.locals→X.s₀.heap.objs.size≤C→(∀x c,X.env.cells.lookup x=some c→c≠C)→(∀p∈X.pn++pins,p.1≠C)→
   RR (.ref acc) C (.ok .next) s'):
  wpAny (model X.prog X.w) X.A (newList []) (fun acc s₃=>wpAny (model X.prog X.w) X.A (newFunctionEnv scope X.env.globals (clOf X.env.cells scope.names []) [] X.env.qual none .none (some X.env)) (fun cenv s₄=>
   codeAny (model X.prog X.w) X.A (.compStart (.ListComp elt [⟨tg,iter,ifs,0⟩] scope pos) 0 (.ref it) acc {cenv with scope:=relabel scope X.env}) (RR acc cenv.locals) s₄) E s₃) E s:=by
 have hfo:∀b∈fp,∃o,s.heap.get? b=some o:=fun b hb=>let⟨o,e,_⟩:=T.obj 0 _ st b hb;⟨o,e⟩
 refine wpAny_newObj_type (wpAny_newFunctionEnv S.nocell (by intro y hy;simp at hy) (fun h₁ hns₁ hsb₁=>?_) S.kind)
 dsimp only at hns₁ hsb₁⊢
 have hacc:H s.heap.objs.size=none:=I.hok.fresh (Nat.le_refl _)
 have I3:Inv X pins σ (upd H s.heap.objs.size (.lst [])) {s with heap:=s.heap.push {cls:=.type "list",dict:=none,data:=.seq ([]:List Value).toArray}}:=I.lnew (t':=s.toks) (its:=[]) (ys:=[]) .nil (Nat.zero_le _)
 have hf3:∀b∈fp,FpOk X pins (upd H s.heap.objs.size (.lst [])) b:=fun b hb=>by
  obtain⟨f0,f⟩:=hf b hb
  obtain⟨o,ho⟩:=hfo b hb
  exact⟨by rw[Zo (Nat.ne_of_lt (Heap.lt_size ho))];exact f0,f⟩
 have hfo3:∀b∈fp,∃o,(s.heap.push {cls:=.type "list",dict:=none,data:=.seq ([]:List Value).toArray}).get? b=some o:=fun b hb=>let⟨o,e⟩:=hfo b hb;⟨o,Heap.get?_push_of_some _ e⟩
 obtain⟨W,⟨m0,w0⟩,turn⟩:=q _ hacc
 generalize hH2:s.heap.push {cls:=.type "list",dict:=none,data:=.seq ([]:List Value).toArray}=H2 at hns₁ hsb₁ I3 hfo3⊢
 have keep:∀b o,H2.get? b=some o→h₁.get? b=some o:=fun b o e=>hsb₁.extBut b o (Nat.ne_of_lt (Heap.lt_size e)) (Heap.get?_push_of_some _ e)
 have J0:=Zin (N':=N') (scope:=scope) (src:=src) (acc:=s.heap.objs.size) (tk:=s.toks+([]:List (Str×Value)).length) (C:=H2.objs.size) S I3 rfl hf3 hfo3 (show h₁.Ns H2.objs.size (fun _=>none)from hns₁) keep
 have st1:tn 0 h₁:=T.keep 0 s.heap h₁ st fun b hb o e=>keep b o (by rw[←hH2];exact Heap.get?_push_of_some _ e)
 have cne:H2.objs.size≠X.env.locals:=Nat.ne_of_gt I3.lt
 have csz:X.s₀.heap.objs.size≤H2.objs.size:=I3.sz
 have ccell:∀x c,X.env.cells.lookup x=some c→c≠H2.objs.size:=fun x c e z=>by
  obtain⟨v,oc,hoc,_⟩:=I3.cell x c e
  exact absurd (Heap.lt_size hoc) (by rw[z];exact Nat.lt_irrefl _)
 have cpin:∀p∈X.pn++pins,p.1≠H2.objs.size:=fun p hp z=>absurd (Heap.lt_size (I3.pin p hp).1) (by rw[z];exact Nat.lt_irrefl _)
 have loop:∀s₃:Shared,s₃={s with heap:=h₁,toks:=s.toks+([]:List (Str×Value)).length}→
   codeAny (model X.prog X.w) X.A (.compLoop (.ListComp elt [⟨tg,iter,ifs,0⟩] scope pos) 0 (.ref it) (.ref s.heap.objs.size) (compEnvC scope (clOf X.env.cells scope.names []) H2.objs.size X.env)) (RR (.ref s.heap.objs.size) H2.objs.size) s₃:=by
  rintro s₃ rfl
  refine Zmx (fun n s'=>∃i σ' H',Inv (X.block N' scope H2.objs.size {s with heap:=H2} (upd H s.heap.objs.size (.lst [])) fp) [] σ' H' s'∧tn i s'.heap∧(∀b∈fp,H' b=none)∧W i n σ' H') ?_ m0 ⟨0,_,_,J0,st1,fun b hb=>(hf3 b hb).1,w0⟩
  rintro n s4 ⟨i,σ4,H4,J4,st4,fr4,w4⟩
  have fok:∀{H':Hp},(∀b∈fp,H' b=none)→∀b∈fp,FpOk (X.block N' scope H2.objs.size {s with heap:=H2} (upd H s.heap.objs.size (.lst [])) fp) [] H' b:=fun{H'} hn b hb=>by
   obtain⟨f0,f1,f2,f3,f4,f5⟩:=hf3 b hb
   refine⟨hn b hb,?_,fun z=>J4.ok.exfs b hb z,.inl hb,fun x c e=>(J4.ok.exf b hb).2 x c e,fun p hp=>?_⟩
   ·exact(J4.ok.exf b hb).1
   ·have hp':p∈([]:List (Addr×Obj)):=by simpa using hp
    exact nomatch hp'
  rcases turn i n σ4 H4 w4 with⟨stop,qn⟩|⟨go,step⟩
  ·refine thn (T.done (X.block N' scope H2.objs.size {s with heap:=H2} (upd H s.heap.objs.size (.lst [])) fp) rfl rfl rfl hc i [] s4 σ4 H4 _ J4 (fok fr4) st4 stop) fun r s5 ⟨hr,J5⟩=>?_
   subst hr
   obtain⟨m5,hn5,_⟩:=J5.loc
   have I5:Inv X pins σ H4 s5:=I3.call' (ch:=fp) J5.os J5.base J5.hok J5.bare fun b hb=>by
    obtain⟨f0,f1,f2,f3,f4,f5⟩:=hf3 b hb
    exact⟨f3,f1,f4,f5⟩
   exact hRR _ _ s5 H4 m5 I5 qn hn5 J5.free cne csz ccell cpin
  ·refine thn (T.item (X.block N' scope H2.objs.size {s with heap:=H2} (upd H s.heap.objs.size (.lst [])) fp) rfl rfl rfl hc i [] s4 σ4 H4 _ J4 (fok fr4) st4 go) fun r s5 ⟨u,hr,h5⟩=>?_
   subst hr
   refine thn h5 fun _ s6 zq9=>?_
   obtain⟨x,H6,J6,r6,y6,st6,fr6⟩:=zq9
   have J6':=J6.pinned (fok fr6) (T.obj _ _ st6)
   have again:∀{σ7:St} {H7:Hp} {s7:Shared},Inv (X.block N' scope H2.objs.size {s with heap:=H2} (upd H s.heap.objs.size (.lst [])) fp) ([]++Zgk fp s6.heap) σ7 H7 s7→(∃m',m'<n∧W (i+1) m' σ7 H7)→
     ∃m,m<n∧∃i σ' H',Inv (X.block N' scope H2.objs.size {s with heap:=H2} (upd H s.heap.objs.size (.lst [])) fp) [] σ' H' s7∧tn i s7.heap∧(∀b∈fp,H' b=none)∧W i m σ' H':=fun{σ7 H7 s7} J7 ⟨m',hm,w7⟩=>by
    refine⟨m',hm,i+1,σ7,H7,J7.unpinned,T.keep _ _ _ st6 fun b hb o e=>(J7.pin (b,o) (List.mem_append_right _ (List.mem_append_right _ (Zce hb e)))).1,fun b hb=>?_,w7⟩
    obtain⟨o,e,d⟩:=T.obj _ _ st6 b hb
    exact(J7.pin (b,o) (List.mem_append_right _ (List.mem_append_right _ (Zce hb e)))).2.1
   refine thn (hg _ _ _ _ _ s6 σ4 H6 x u _ J6' r6 (step x H6 y6)) fun _ s7 zq9=>?_
   obtain⟨σ7,H7,J7,q7⟩:=zq9
   refine thn (ht _ _ _ _ _ s7 σ7 H7 _ J7 q7) fun b s8 zq9=>?_
   obtain⟨H8,J8,q8⟩:=zq9
   cases b with
   |false=>rw[if_neg Bool.false_ne_true]at q8⊢;exact again J8 q8
   |true=>
    rw[if_pos rfl]at q8⊢
    refine thn (he _ _ _ _ _ s8 σ7 H8 _ J8 q8) fun y s9 zq9=>?_
    obtain⟨vy,H9,J9,r9,q9⟩:=zq9
    refine thn (Zd0 _ s9 σ7 H9 (.ref s.heap.objs.size) [vy] (.ref s.heap.objs.size) [y] _ J9 rfl (.cons r9 .nil) q9) fun _ s10 ⟨_,H10,J10,_,q10⟩=>again J10 q10
 exact codeAny_compStart_list (loop _ rfl) (T.self X.A 0 _ _ _ st1 (loop _ rfl))
theorem Zs4{tg elt iter:Expr}{ifs:List Expr}{pos:Pos}{wi:TI}{g:TG}{tt:TT}{te:TE}(hc:X.calm=true)(S:CompScope X N' scope src)(hi:PI X tg iter wi)
  (hg:∀(C:Addr) (s₀:Shared) (H₀:Hp) (ex:List Addr),PG (X.block N' scope C s₀ H₀ ex) tg g)
  (ht:∀(C:Addr) (s₀:Shared) (H₀:Hp) (ex:List Addr),PTs (X.block N' scope C s₀ H₀ ex) ifs tt)
  (he:∀(C:Addr) (s₀:Shared) (H₀:Hp) (ex:List Addr),PE (X.block N' scope C s₀ H₀ ex) elt te)
  (hs:∀x,foldedSetIterable iter X.env x=pure x:=by intro _;rfl):PE X (.ListComp elt [⟨tg,iter,ifs,0⟩] scope pos) (Zwc src wi g tt te):=by
 intro pins s σ H Q I h
 rw[eval_ListComp]
 refine wpAny_comprehension_free (use:=none) rfl hs (Zfn fun y hy e=>I.ok.has y.1 (S.free y hy e)) S.kind S.names (thn (hi pins s σ H _ I h) fun v s1 h1=>thn h1 fun itv s2 h2=>?_)
 obtain⟨it,fp,tn,J,H2,e,I2,T,st2,f2,q⟩:=h2
 subst e
 refine Zlb hc S hg ht he I2 T st2 f2 q fun acc C s' H' m I' q' hn hC c1 c2 c3 c4=>⟨m,hn,fun h' hs'=>?_⟩
 exact⟨.ref acc,H',I'.turned (t':=s'.toks) (fun b o hb e=>(hs'.2 b hb).trans e) hC c1 (.inr c2) c3 c4,rfl,q'⟩
end
end L2
namespace L2
open PySem PySem.Spec PyProof.Rows
noncomputable def Zzn(h:Heap)(xs:List Addr):Heap:={objs:=(Array.range h.objs.size).map fun a=>if a∈xs then{cls:=.none,data:=.freed}else(h.objs[a]?).getD {cls:=.none,data:=.freed}}
structure Raised(h:Heap)(e:Addr)(cls:Value)(dx tb:Option Addr):Prop where
 obj:∃oe vs,h.get? e=some oe∧oe.cls=cls∧oe.dict=dx∧oe.data= .fields vs∧vs[1]? =some (match tb with|none=>.none|some T=>.ref T)
 tr:∀T,tb=some T→T≠e∧∃oT ts fl,h.get? T=some oT∧oT.data= .fields ts∧ts[3]? =some fl
noncomputable def tbl':Option Addr→List Addr
 |none=>[]
 |some T=>[T]
structure Noted(l:List Addr)(h h':Heap)(e:Addr)(cls:Value)(dx tb:Option Addr)(T:Addr):Prop where
 keep:∀b o,b≠e→b∉tbl' tb→b∉l→h.get? b=some o→h'.get? b=some o
 slot:∀b o,b∈l→h.get? b=some o→∃sl,h'.get? b=some {o with slots:=sl}
 new:h.get? T=none∨some T=tb
 r:Raised h' e cls dx (some T)
section
variable{M:Model}{A:Around}{E:Value→Shared→Prop}{s:Shared}{base:Heap}{env:Env}{outer:List Env}{L e:Addr}{cls:Value}{dx tb:Option Addr}{Q:Unit→Shared→Prop}
end
end L2
namespace L2
open PySem PySem.Spec PyProof.Rows
noncomputable def CX1(P:Program)(w:World):CXT:=fun outer H s E e s'=>∃(a:Addr) (cls:Value) (dx:Option Addr) (T:Addr) (H':Hp),e= .ref a∧s'.os=s.os∧AllBare s'.gens∧Un (frs outer) [] H H' s.heap s'.heap∧HOk P w H' s'.heap∧
 Raised s'.heap a cls dx (some T)∧s.heap.get? a=none∧s.heap.get? T=none∧H' a=none∧H' T=none∧E cls dx H'
noncomputable def Z11(X:Cx)(EX:XK):Prop:=∀(pins:List (Addr×Obj)) (σ:St) (H:Hp) (s:Shared) (e:Addr) (cls:Value) (dx tb:Option Addr),Inv X pins σ H s→Raised s.heap e cls dx tb→X.s₀.heap.get? e=none→H e=none→
 (∀T,tb=some T→X.s₀.heap.get? T=none∧H T=none)→EX cls dx H→X.xe (.ref e) s
end L2
namespace L2
open PySem PySem.Spec PyProof.Rows
abbrev VEB:List Value:=[.type "ValueError",.type "Exception",.type "BaseException",.type "object"]
noncomputable def Z12(EX:XK)(C:Addr)(t:TA):TS:=fun _ σ H=>t σ H fun vs H1=>vs.length≤sizeLine∧EX (.ref C) none H1
end L2
namespace L2
open PySem PySem.Spec PyProof.Rows
noncomputable abbrev EXT:=Value→Option Addr→St→Hp→Prop
noncomputable def Zzo(X:Cx)(EX:EXT):Prop:=∀(pins:List (Addr×Obj)) (σ:St) (H:Hp) (s:Shared) (e:Addr) (cls:Value) (dx:Option Addr) (T:Addr),Inv X pins σ H s→Raised s.heap e cls dx (some T)→X.s₀.heap.get? e=none→H e=none→
 X.s₀.heap.get? T=none→H T=none→(∀p∈X.pn++pins,p.1≠e∧p.1≠T)→(e≠X.env.locals∧T≠X.env.locals)→(∀x c,X.env.cells.lookup x=some c→c≠e∧c≠T)→EX cls dx σ H→X.xe (.ref e) s
noncomputable def Z3c(X:Cx)(EX:EXT):Prop:=∀(pins:List (Addr×Obj)) (σ:St) (H:Hp) (s:Shared) (e:Value) (s':Shared),Inv X pins σ H s→CX1 X.prog X.w X.stack H s (fun cls od H'=>EX cls od σ H') e s'→X.xe e s'
noncomputable def Z13(sp:Sp)(EX:EXT)(t:TA):TE:=fun σ H Q=>t σ H fun vs H1=>sp vs H1 Q fun cls od H'=>EX cls od σ H'
end L2
namespace L2
open PySem PySem.Spec PyProof.Rows
structure Air(X:Cx)(pins:List (Addr×Obj))(H:Hp)(s:Shared)(e:Addr)(cls:Value)(dx:Option Addr)(T:Addr):Prop where
 r:Raised s.heap e cls dx (some T)
 e0:X.s₀.heap.get? e=none
 eH:H e=none
 t0:X.s₀.heap.get? T=none
 tH:H T=none
 pe:∀p∈X.pn++pins,p.1≠e∧p.1≠T
 le:e≠X.env.locals∧T≠X.env.locals
 ce:∀x c,X.env.cells.lookup x=some c→c≠e∧c≠T
section
variable{X:Cx}{pins:List (Addr×Obj)}{σ:St}{H:Hp}{s:Shared}{e T:Addr}{cls:Value}{dx:Option Addr}
end
noncomputable abbrev Cx.inTry(X:Cx)(pn:List (Addr×Obj))(xe:Value→Shared→Prop):Cx:={X with pn:=pn,xe:=xe}
noncomputable abbrev Cx.inSuite(X:Cx)(a:Addr):Cx:={X with A:=X.A.mark (some (.ref a)),calm:=false,xe:=fun _ _=>False}
section
variable{X:Cx}{pins:List (Addr×Obj)}{σ:St}{H:Hp}{s:Shared}{e T:Addr}{cls:Value}{dx:Option Addr}{xe:Value→Shared→Prop}
noncomputable def Zlc(a C:Addr)(dx:Option Addr):Heap→Prop:=fun h=>∃o,h.get? a=some o∧o.cls= .ref C∧o.dict=dx∧PySem.W.notCls o=true
end
end L2
namespace L2
open PySem PySem.Spec PyProof.Rows
set_option genInjectivity false in
structure Hd where
 x:Str
 np:Pos
 nm:Option (Str×Nat)
 b0:Stmt
 suite:List Stmt
 pos:Pos
 B:Addr
 t:TS
noncomputable def Hd.ast(h:Hd):ExceptHandler:=.ExceptHandler (some (.Name h.x h.np)) (h.nm.map (·.1)) (h.b0::h.suite) h.pos
noncomputable def Ends.but(D:Ends)(i:Nat):Ends:={nx:=fun σ H=>D.nx (σ.set i none) H,bk:=fun σ H=>D.bk (σ.set i none) H,ct:=fun σ H=>D.ct (σ.set i none) H,rt:=D.rt}
noncomputable def Hd.run(h:Hd)(C:Addr)(dx:Option Addr)(D:Ends)(σ:St)(H:Hp):Prop:=match h.nm with
 |none=>h.t D σ H
 |some (_,i)=>∀a,H a=none→h.t (D.but i) (σ.set i (some (.ref a))) (upd H a (.ext (Zlc a C dx)))
noncomputable def Zwd(K:PySem.W.Frag)(C:Addr):List Hd→Option Hd
 | []=>none
 |h::r=>match PySem.W.mroIn K C (.ref h.B)with
  |some true=>some h
  |some false=>Zwd K C r
  |none=>none
set_option genInjectivity false in
structure Hd.Ok(X:Cx)(h:Hd):Prop where
 gl:Gl X h.x
 mg:X.mg h.x=some (.ref h.B)
 ty:PySem.W.typeIn X.K (.ref h.B)=some (.type "type")
 cl:PySem.W.isClsIn X.K h.B=true
 bs:PySem.W.mroIn X.K h.B (.type "BaseException")=some true
 db:(h.x==("__debug__":Str))=false
 nm:∀n i,h.nm=some (n,i)→X.N.Nodup∧X.N[i]? =some n∧Loc X.env.scope n∧X.env.kindOf n=some .local∧X.env.scope.names.lookup n=some .local
 su:∀a,PSs (X.inSuite a) (h.b0::h.suite) h.t
section
variable{X:Cx}{pins:List (Addr×Obj)}{σ:St}{H:Hp}{s:Shared}{e T C:Addr}{dx:Option Addr}{D:Ends}
noncomputable def tTry(K:PySem.W.Frag)(tb:EXT→TS)(hs:List Hd):TS:=fun D σ H=>tb (fun cls dx σ' H'=>∃C h,cls= .ref C∧Zwd K C hs=some h∧h.run C dx D σ' H') D σ H
end
end L2
namespace L2
open PySem PySem.Spec PySem.Calls PyProof.Rows Builtin.ObjectAttr Builtin.Getset_descriptor
structure ExcKit(K:PySem.W.Frag)(C:Addr):Prop where
 cl:PySem.W.isClsIn K C=true
 ga:PySem.W.findIn K (.ref C) "__getattribute__"=some (some (.builtin "BaseException.__getattribute__"))
 gt:PySem.W.findIn K (.ref C) "__getattr__"=some none
 ca:PySem.W.findIn K (.ref C) "__class__"=some (some (.builtin "object.__class__"))
 gs:PySem.W.specialIn K (.builtin "object.__class__") "__get__"=some (some (.builtin "getset_descriptor.__get__"))
 tk:PySem.W.takesIn K (.builtin "object.__class__")=some true
 ob:PySem.W.mroIn K C (.type "object")=some true
 be:PySem.W.mroIn K C (.type "BaseException")=some true
section
variable{prog:Program}{w:World}{A:Around}{E:Value→Shared→Prop}{s:Shared}{K:PySem.W.Frag}{x C:Addr}{dx:Option Addr}
end
section
variable{X:Cx}
noncomputable def rIsX(K:PySem.W.Frag)(c:V)(cv:Value):List V→Hp→VK→Prop:=fun xs H Q=>∃a C dx b,xs=[.ref a,c]∧H a=some (.ext (Zlc a C dx))∧ExcKit K C∧PySem.W.kitOne K (.ref C) cv=some b∧Q (.bl b) H
noncomputable def Z3d(K:PySem.W.Frag)(Bs:List Addr):List V→Hp→VK→Prop:=fun xs H Q=>∃a C dx p b,xs=[.ref a,.ref p]∧H a=some (.ext (Zlc a C dx))∧ExcKit K C∧H p=some (.tup (Bs.map V.ref))∧PySem.W.kitAny K (.ref C) (Bs.map Value.ref)=some b∧Q (.bl b) H
end
end L2
namespace L2
open PySem PySem.Spec PyProof.Rows
section
variable{X:Cx}{pins:List (Addr×Obj)}{σ:St}{H:Hp}{s s':Shared}
end
noncomputable abbrev Cx.blockX(X:Cx)(N':List Str)(scope:Scope)(C:Addr)(s₀:Shared)(H₀:Hp)(ex:List Addr)(xe:Value→Shared→Prop):Cx:=
 {X with N:=N',env:=compEnvC scope (clOf X.env.cells scope.names []) C X.env,s₀:=s₀,H₀:=H₀,outer:=X.stack,stack:=X.stack,ex:=ex,fn:=fun _=>false,pn:=[],xe:=xe}
section
variable{X:Cx}{N':List Str}{scope:Scope}{src:List BSrc}{pins:List (Addr×Obj)}{σ:St}{H:Hp}{s:Shared}{C acc:Addr}{fp:List Addr}
noncomputable def Z14(src:List BSrc)(wi:TI)(g:TG)(tt:TT)(te:EXT→TE)(EX:EXT):TE:=fun σ H Q=>wi σ H fun J H1=>∀acc,H1 acc=none→
 ∃W:Nat→Nat→St→Hp→Prop,(∃m,W 0 m (bSt src σ acc) (upd H1 acc (.lst [])))∧∀i m σ' H,W i m σ' H→(J.stop i H∧Q (.ref acc) H)∨
  (J.go i H∧∀x H',J.yld i H x H'→g x σ' H' fun σ2 H2=>tt σ2 H2 fun b H3=>if b=true then te (fun cls od _ H'=>EX cls od σ H') σ2 H3 fun y H4=>Zc5 (.ref acc) [y] H4 fun _ H5=>∃m',m'<m∧W (i+1) m' σ2 H5 else∃m',m'<m∧W (i+1) m' σ2 H3)
end
end L2
namespace PySem
open Sem (wp)
section
variable{prog:Program}{w:World}{A:Around}{E:Value→Shared→Prop}{h:Heap}{g:Array GenState}{d:Drawn}{t:Nat}{os:OsState}
variable{nm q:Str}{C N fI:Addr}{oI:Obj}{bs bm bmB bmN:List Value}{hdct:Bool}{sn:List Str}{sub:List Value}{ab:Bool}{col:Option Bool}{dd:Option Addr}{k0 k1 k2 k3 k5:Option Value}{B Bn newId nid initId inN:String}{mN:Str→Option Value}{rest:List Value}
end
section
variable{prog:Program}{w:World}{A:Around}{E:Value→Shared→Prop}{s:Shared}{env:Env}
variable{nm q:Str}{C N fI:Addr}{bs bm bmB bmN:List Value}{hdct:Bool}{sn:List Str}{sub:List Value}{ab:Bool}{col:Option Bool}{dd:Option Addr}{k0 k1 k2 k3 k5:Option Value}{B Bn newId nid initId inN:String}{mN:Str→Option Value}
end
end PySem
namespace L2
open PySem PySem.Spec PySem.Calls PyProof.Rows Builtin.ObjectAttr
noncomputable def Zrt:List Value→Bool
 | .ref _::r=>Zrt r
 |l=>l==VEB
structure ExcSet(K:PySem.W.Frag)(C:Addr)(name:Str):Prop where
 sa:PySem.W.findIn K (.ref C) "__setattr__"=some (some (.builtin "object.__setattr__"))
 ob:PySem.W.mroIn K C (.type "object")=some true
 na:PySem.W.findIn K (.ref C) name=some none
 mr:((PySem.W.clsIn K C).any fun cd=>Zrt cd.mro&&cd.hasDict)=true
noncomputable def Zdj(a C:Addr)(dx:Option Addr):Heap→Prop:=fun h=>∃o t,h.get? a=some o∧o.cls= .ref C∧o.dict=dx∧o.data= .fields #[.ref t,.none,.none,.none,.bool false,.none]
section
variable{prog:Program}{w:World}{A:Around}{E:Value→Shared→Prop}{s:Shared}{K:PySem.W.Frag}{x C:Addr}{name:Str}{v:Value}
end
end L2
namespace L2
open PySem PySem.Spec PyProof.Rows
noncomputable def Z15(K:PySem.W.Frag)(C f:Addr):Bool:=match K.lookup C with
 |some ⟨.type "type",_,.cls cd,sl⟩=>(match cd.mro,sl.toList with
  | .ref B::r,[_,_,_,_,some (.builtin i),_]=>B==C&&i=="ValueError.__new__" && !cd.hasDel&&PySem.W.tailIn K VEB r&&PySem.W.nsOkIn K cd.ns&&PySem.W.nsIn K cd.ns "__init__"==some (some (.ref f))
  |_,_=>false)
 |_=>false
noncomputable def Zzp(C f:Addr)(h:Heap):Prop:=∃(bm:List Value) (N:Addr) (nm q:Str) (bs:List Value) (hdct:Bool) (sn:List Str) (sub:List Value) (ab:Bool) (col:Option Bool) (dd:Option Addr) (k0 k1 k2 k3 k5:Option Value) (mN:Str→Option Value),
 h.get? C=some (excClassObj nm q C N bs bm hdct sn sub ab col dd k0 k1 k2 k3 k5 "ValueError.__new__")∧h.Ns N mN∧mN "__init__"=some (.ref f)∧OwnTail h VEB bm
noncomputable def drop(H:Hp)(e:Addr):Hp:=fun b=>if b=e then none else H b
section
variable{X:Cx}{pins:List (Addr×Obj)}{σ:St}{H:Hp}{s:Shared}{e C:Addr}
end
structure ExcGet(K:PySem.W.Frag)(C:Addr)(f:Str):Prop where
 kit:ExcKit K C
 na:PySem.W.findIn K (.ref C) f=some none
 mr:((PySem.W.clsIn K C).any fun cd=>cd.hasDict)=true
noncomputable def Z16(K:PySem.W.Frag)(ta:TE)(f:Str):TE:=fun σ H Q=>ta σ H fun x H1=>∃a C dx fs v,x= .ref a∧H1 a=some (.ext (Zlc a C (some dx)))∧H1 dx=some (.xd fs)∧ExcGet K C f∧fs.lookup f=some v∧Q v H1
section
variable{X:Cx}{e o value:Expr}{f:Str}{pos pos':Pos}{ta tv:TE}
noncomputable def Z17(K:PySem.W.Frag)(ta tv:TE)(f:Str):TS:=fun D σ H=>tv σ H fun y H1=>ta σ H1 fun x H2=>∃a C,x= .ref a∧H2 a=some (.ext (Zdj a C none))∧ExcSet K C f∧
 ∀dx,H2 dx=none→D.nx σ (upd (upd H2 dx (.xd [(f,y)])) a (.ext (Zdj a C (some dx))))
end
noncomputable def Zzq(EX:XK)(C:Addr)(sp:Sp)(t:TA):TS:=fun _ σ H=>t σ H fun vs H1=>vs.length≤sizeLine∧∀e,H1 e=none→sp (.ref e::vs) (upd H1 e (.ext (Zdj e C none))) (fun v H2=>v= .non∧∃dx,H2 e=some (.ext (Zdj e C dx))∧EX (.ref C) dx (drop H2 e)) E0
end L2
namespace DL
open PySem L2
variable{K:PySem.W.Frag}
inductive D where
 |non|bl (b:Bool)|int (i:Int)|str (x:Str)
 |tup (xs:List D)|lst (xs:List D)
 |dK (ks:List Key) (vs:List D)|dT (ks:List (List Key)) (vs:List D)
 |exc (c:Str) (ks:List Str) (vs:List D)
noncomputable def Zio(K:PySem.W.Frag)(c:Str)(C:Addr):Prop:=PySem.W.nsIn K mainGlobals c=some (some (.ref C))
noncomputable def KB(F:Hp)(kvs:List (List Key×V))(bs:List Addr):Prop:=Paired (fun(p:List Key×V) (b:Addr)=>F b=some (.tup (p.1.map kV))) kvs bs
mutual
inductive Rep(K:PySem.W.Frag)(F:Hp):D→V→Prop where
 |non:Rep K F .non .non
 |bl (b:Bool):Rep K F (.bl b) (.bl b)
 |int (i:Int):Rep K F (.int i) (.int i)
 |str (x:Str):Rep K F (.str x) (.str x)
 |tup {a:Addr} {xs:List D} {vs:List V} (h:F a=some (.tup vs)) (r:Reps K F xs vs):Rep K F (.tup xs) (.ref a)
 |lst {a:Addr} {xs:List D} {vs:List V} (h:SqL K F a vs) (r:Reps K F xs vs):Rep K F (.lst xs) (.ref a)
 |dK {a:Addr} {ks:List Key} {ds:List D} {kvs:List (Key×V)} {ep:Nat} (h:F a=some (.dK kvs ep)) (e:kvs.map (·.1)=ks) (r:Reps K F ds (kvs.map (·.2))):Rep K F (.dK ks ds) (.ref a)
 |dT {a:Addr} {ks:List (List Key)} {ds:List D} {kvs:List (List Key×V)} {ep:Nat} {bs:List Addr} (h:F a=some (.dT kvs ep bs)) (kb:KB F kvs bs) (e:kvs.map (·.1)=ks) (r:Reps K F ds (kvs.map (·.2))):Rep K F (.dT ks ds) (.ref a)
 |exc {a C:Addr} {c:Str} (cl:Zio K c C) (h:F a=some (.ext (Zlc a C none))):Rep K F (.exc c [] []) (.ref a)
 |exd {a C dx:Addr} {c:Str} {ks:List Str} {ds:List D} {fs:List (Str×V)} (cl:Zio K c C) (h:F a=some (.ext (Zlc a C (some dx)))) (hx:F dx=some (.xd fs)) (e:fs.map (·.1)=ks) (r:Reps K F ds (fs.map (·.2))):Rep K F (.exc c ks ds) (.ref a)
inductive Reps(K:PySem.W.Frag)(F:Hp):List D→List V→Prop where
 |nil:Reps K F [] []
 |cons {d:D} {v:V} {ds:List D} {vs:List V} (h:Rep K F d v) (t:Reps K F ds vs):Reps K F (d::ds) (v::vs)
end
theorem KB.mono{F F':Hp}(s:Same F F'){kvs:List (List Key×V)}{bs:List Addr}(h:KB F kvs bs):KB F' kvs bs:=Paired.mapP h fun _ _ z=>s _ _ z
theorem Zru{F F':Hp}(s:Same F F'){a:Addr}{u:HO}(h:Rd F a u):Rd F' a u:=by
 rcases h with h|⟨o,h⟩
 ·exact .inl (s _ _ h)
 ·exact .inr ⟨o,s _ _ h⟩
theorem Zah{F F':Hp}(s:Same F F'){a:Addr}{xs:List V}(h:SqL K F a xs):SqL K F' a xs:=by
 rcases h with h|h
 ·exact .inl (Zru s h)
 ·exact .inr h
theorem Zat{F F':Hp}(s:Same F F'){a:Addr}{xs:List V}(h:SqT K F a xs):SqT K F' a xs:=by
 rcases h with h|h
 ·exact .inl (Zru s h)
 ·exact .inr h
theorem Zd4{F:Hp}{a:Addr}{vs:List V}(h:F a=some (.tup vs)):SqT K F a vs:=.inl (.inl h)
mutual
theorem Rep.mono{F F':Hp}(s:Same F F'):∀{d:D} {v:V},Rep K F d v→Rep K F' d v
 |_,_,.non=>.non
 |_,_,.bl b=>.bl b
 |_,_,.int i=>.int i
 |_,_,.str x=>.str x
 |_,_,.tup h r=>.tup (s _ _ h) (Reps.mono s r)
 |_,_,.lst h r=>.lst (Zah s h) (Reps.mono s r)
 |_,_,.dK h e r=>.dK (s _ _ h) e (Reps.mono s r)
 |_,_,.dT h kb e r=>.dT (s _ _ h) (kb.mono s) e (Reps.mono s r)
 |_,_,.exc cl h=>.exc cl (s _ _ h)
 |_,_,.exd cl h hx e r=>.exd cl (s _ _ h) (s _ _ hx) e (Reps.mono s r)
theorem Reps.mono{F F':Hp}(s:Same F F'):∀{ds:List D} {vs:List V},Reps K F ds vs→Reps K F' ds vs
 |_,_,.nil=>.nil
 |_,_,.cons h t=>.cons (Rep.mono s h) (Reps.mono s t)
end
theorem Reps.length{F:Hp}{ds:List D}:∀{vs:List V},Reps K F ds vs→ds.length=vs.length:=by
 induction ds with
 |nil=>intro vs h;cases h;rfl
 |cons d ds ih=>
  intro vs h
  cases h with
  |cons _ t=>rw[List.length_cons,List.length_cons,ih t]
theorem Reps.append{F:Hp}{ds es:List D}{vs us:List V}(h:Reps K F ds vs)(q:Reps K F es us):Reps K F (ds++es) (vs++us):=by
 induction ds generalizing vs with
 |nil=>cases h;exact q
 |cons d ds ih=>
  cases h with
  |cons h t=>exact .cons h (ih t)
theorem Reps.snoc{F:Hp}{ds:List D}{vs:List V}{d:D}{v:V}(r:Reps K F ds vs)(h:Rep K F d v):Reps K F (ds++[d]) (vs++[v]):=r.append (.cons h .nil)
theorem Reps.get{F:Hp}:∀{ds:List D} {vs:List V} {i:Nat} {d:D},Reps K F ds vs→ds[i]? =some d→∃v,vs[i]? =some v∧Rep K F d v
 |_,_,_,_,.nil,e=>by simp at e
 |_,_,0,_,.cons h t,e=>by simp at e;subst e;exact⟨_,rfl,h⟩
 |_,_,i+1,d,.cons h t,e=>by
  obtain⟨v,h1,h2⟩:=Reps.get (i:=i) (d:=d) t (by simpa using e)
  exact⟨v,by simpa using h1,h2⟩
theorem Reps.take{F:Hp}:∀{ds:List D} {vs:List V} (n:Nat),Reps K F ds vs→Reps K F (ds.take n) (vs.take n)
 |_,_,0,_=>.nil
 |_,_,_+1,.nil=>.nil
 |_,_,n+1,.cons h t=>.cons h (t.take n)
theorem Reps.drop{F:Hp}:∀{ds:List D} {vs:List V} (n:Nat),Reps K F ds vs→Reps K F (ds.drop n) (vs.drop n)
 |_,_,0,r=>r
 |_,_,_+1,.nil=>.nil
 |_,_,n+1,.cons h t=>t.drop n
inductive SV where
 |fz (d:D)|ol (xs:List D)|oK (ks:List Key) (vs:List D)|oT (ks:List (List Key)) (vs:List D)|oN (ks:List Key) (xss:List (List D))|oL (pin:Option Addr) (xss:List (List D))|oQ (pin:Addr) (ks:List Key) (vs:List D)
@[simp] noncomputable def SV.toD:SV→D
 | .fz d=>d
 | .ol xs=>.lst xs
 | .oK ks vs=>.dK ks vs
 | .oT ks vs=>.dT ks vs
 | .oN ks xss=>.dK ks (xss.map D.lst)
 | .oL _ xss=>.lst (xss.map D.lst)
 | .oQ _ ks vs=>.dK ks vs
noncomputable abbrev Zk:=List (Addr×HO)
inductive Kids(K:PySem.W.Frag)(F:Hp):List (List D)→List V→Zk→Prop where
 |nil:Kids K F [] [] []
 |cons {xs:List D} {xss:List (List D)} {b:Addr} {vs:List V} {ws:List V} {ns:Zk} (r:Reps K F xs vs) (t:Kids K F xss ws ns):Kids K F (xs::xss) (.ref b::ws) ((b,.lst vs)::ns)
inductive Shape(K:PySem.W.Frag)(F:Hp):SV→V→Zk→Prop where
 |fz {d:D} {v:V} (h:Rep K F d v):Shape K F (.fz d) v []
 |ol {a:Addr} {xs:List D} {vs:List V} (r:Reps K F xs vs):Shape K F (.ol xs) (.ref a) [(a,.lst vs)]
 |oK {a:Addr} {ks:List Key} {ds:List D} {kvs:List (Key×V)} {ep:Nat} (e:kvs.map (·.1)=ks) (r:Reps K F ds (kvs.map (·.2))):Shape K F (.oK ks ds) (.ref a) [(a,.dK kvs ep)]
 |oT {a:Addr} {ks:List (List Key)} {ds:List D} {kvs:List (List Key×V)} {ep:Nat} {bs:List Addr} (kb:KB F kvs bs) (e:kvs.map (·.1)=ks) (r:Reps K F ds (kvs.map (·.2))):Shape K F (.oT ks ds) (.ref a) [(a,.dT kvs ep bs)]
 |oN {a:Addr} {ks:List Key} {xss:List (List D)} {kvs:List (Key×V)} {ns:Zk} {ep:Nat} (e:kvs.map (·.1)=ks) (r:Kids K F xss (kvs.map (·.2)) ns):Shape K F (.oN ks xss) (.ref a) ((a,.dK kvs ep)::ns)
 |oL {pin:Option Addr} {a:Addr} {xss:List (List D)} {ws:List V} {ns:Zk} (hp:∀b,pin=some b→b=a) (r:Kids K F xss ws ns):Shape K F (.oL pin xss) (.ref a) ((a,.lst ws)::ns)
 |oQ {a:Addr} {ks:List Key} {ds:List D} {kvs:List (Key×V)} {ep:Nat} (e:kvs.map (·.1)=ks) (r:Reps K F ds (kvs.map (·.2))):Shape K F (.oQ a ks ds) (.ref a) [(a,.dK kvs ep)]
theorem Kids.mono{F F':Hp}(s:Same F F'){xss:List (List D)}{ws:List V}{ns:Zk}(h:Kids K F xss ws ns):Kids K F' xss ws ns:=by
 induction h with
 |nil=>exact .nil
 |cons r _ ih=>exact .cons (r.mono s) ih
theorem Shape.mono{F F':Hp}(s:Same F F'){sv:SV}{v:V}{ns:Zk}(h:Shape K F sv v ns):Shape K F' sv v ns:=by
 cases h with
 |fz h=>exact .fz (h.mono s)
 |ol r=>exact .ol (r.mono s)
 |oK e r=>exact .oK e (r.mono s)
 |oT kb e r=>exact .oT (kb.mono s) e (r.mono s)
 |oN e r=>exact .oN e (r.mono s)
 |oL hp r=>exact .oL hp (r.mono s)
 |oQ e r=>exact .oQ e (r.mono s)
noncomputable def addL(F:Hp):Zk→Hp
 | []=>F
 |p::r=>upd (addL F r) p.1 p.2
noncomputable abbrev adr(ns:Zk):List Addr:=ns.map (·.1)
theorem Zbo{F:Hp}{b:Addr}:∀{ns:Zk},b∉adr ns→addL F ns b=F b
 | [],_=>rfl
 |p::r,h=>by
  have h1:b≠p.1:=fun e=>h (by rw[e];exact List.mem_cons_self)
  have h2:b∉adr r:=fun e=>h (List.mem_cons_of_mem _ e)
  show upd (addL F r) p.1 p.2 b=F b
  rw[Zo h1,Zbo h2]
theorem Zfo{F:Hp}{p:Addr×HO}:∀{ns:Zk},(adr ns).Nodup→p∈ns→addL F ns p.1=some p.2
 | [],_,h=>nomatch h
 |q::r,nd,h=>by
  obtain⟨n1,n2⟩:=List.nodup_cons.mp nd
  show upd (addL F r) q.1 q.2 p.1=some p.2
  rcases List.mem_cons.mp h with e|e
  ·subst e;exact Z3
  ·rw[Zo fun z=>n1 (List.mem_map.mpr ⟨p,e,z⟩)]
   exact Zfo n2 e
theorem Zan{F:Hp}{ns:Zk}(h:∀p∈ns,F p.1=none):Same F (addL F ns):=fun b o e=>by
 by_cases hb:b∈adr ns
 ·obtain⟨p,hp,ep⟩:=List.mem_map.mp hb
  subst ep
  rw[h p hp]at e;cases e
 ·rw[Zbo hb];exact e
theorem Zip{F H:Hp}{ns:Zk}(nd:(adr ns).Nodup)(le:Same F H)(h:∀p∈ns,H p.1=some p.2):Same (addL F ns) H:=fun b o e=>by
 by_cases hb:b∈adr ns
 ·obtain⟨p,hp,ep⟩:=List.mem_map.mp hb
  subst ep
  rw[Zfo nd hp]at e
  cases e
  exact h p hp
 ·rw[Zbo hb]at e;exact le b o e
theorem Zjt{Z:Hp×Hp}{F:Hp}{ns:Zk}(nd:(adr ns).Nodup)(fro:∀(b:Addr) (o:HO),F b=some o→Z.2 b=some o∨Z.1 b=none)(hz:∀p∈ns,Z.1 p.1=none):∀(b:Addr) (o:HO),addL F ns b=some o→Z.2 b=some o∨Z.1 b=none:=fun b o e=>by
 by_cases hb:b∈adr ns
 ·obtain⟨p,hp,ep⟩:=List.mem_map.mp hb
  subst ep
  exact .inr (hz p hp)
 ·rw[Zbo hb]at e;exact fro b o e
theorem Kids.rep{F F':Hp}(s:Same F F'):∀{xss:List (List D)} {ws:List V} {ns:Zk},Kids K F xss ws ns→(∀p∈ns,F' p.1=some p.2)→Reps K F' (xss.map D.lst) ws
 |_,_,_,.nil,_=>.nil
 |_,_,_,.cons r t,h=>.cons (.lst (.inl (.inl (h _ List.mem_cons_self))) (r.mono s)) (t.rep s fun p hp=>h p (List.mem_cons_of_mem _ hp))
theorem Shape.rep{F:Hp}{sv:SV}{v:V}{ns:Zk}(h:Shape K F sv v ns)(nd:(adr ns).Nodup)(hn:∀p∈ns,F p.1=none):Rep K (addL F ns) sv.toD v:=by
 have s:=Zan hn
 have a:∀p∈ns,addL F ns p.1=some p.2:=fun p hp=>Zfo nd hp
 cases h with
 |fz h=>exact h
 |ol r=>exact .lst (.inl (.inl (a (_,_) List.mem_cons_self))) (r.mono s)
 |oK e r=>exact .dK (a (_,_) List.mem_cons_self) e (r.mono s)
 |oT kb e r=>exact .dT (a (_,_) List.mem_cons_self) (kb.mono s) e (r.mono s)
 |oN e r=>exact .dK (a (_,_) List.mem_cons_self) e (r.rep s fun p hp=>a p (List.mem_cons_of_mem _ hp))
 |oL _ r=>exact .lst (.inl (.inl (a (_,_) List.mem_cons_self))) (r.rep s fun p hp=>a p (List.mem_cons_of_mem _ hp))
 |oQ e r=>exact .dK (a (_,_) List.mem_cons_self) e (r.mono s)
noncomputable abbrev DSt:=List (Option SV)
set_option genInjectivity false in
structure Ent(K:PySem.W.Frag)where
 h:Hp
 f:Hp
 x:EXT
noncomputable abbrev ent(H F:Hp):Ent K:=⟨H,F,fun _ _ _ _=>False⟩
set_option genInjectivity false in
structure Exn where
 c:Str
 ks:List Str:=[]
 vs:List D:=[]
noncomputable def Zju(K:PySem.W.Frag)(F:Hp)(e:Exn)(cls:Value)(od:Option Addr):Prop:=∃C,Zio K e.c C∧cls= .ref C∧match od with
 |none=>e.ks=[]∧e.vs=[]
 |some dx=>∃fs:List (Str×V),F dx=some (.xd fs)∧fs.map (·.1)=e.ks∧Reps K F e.vs (fs.map (·.2))
structure SR(Z:Ent K)(F H:Hp)(σ:St)(δ:DSt)(own:Nat→Zk):Prop where
 le:Same F H
 fro:∀(b:Addr) (o:HO),F b=some o→Z.f b=some o∨Z.h b=none
 old:Same Z.h H
 len:σ.length=δ.length
 at':∀(i:Nat) (sv:SV),δ[i]? =some (some sv)→∃v,σ[i]? =some (some v)∧Shape K F sv v (own i)
 nod:∀i:Nat,(adr (own i)).Nodup
 ok:∀(i:Nat) (p:Addr×HO),p∈own i→F p.1=none∧Z.h p.1=none∧H p.1=some p.2
 sep:∀(i j:Nat) (p q:Addr×HO),i≠j→p∈own i→q∈own j→p.1≠q.1
inductive RV where
 |tmp (sv:SV)|bw (i:Nat)
structure TmpOk(Z:Ent K)(F H:Hp)(own:Nat→Zk)(sv:SV)(v:V)(ns:Zk):Prop where
 sh:Shape K F sv v ns
 nd:(adr ns).Nodup
 ok:∀p∈ns,F p.1=none∧Z.h p.1=none∧H p.1=some p.2
 sep:∀(i:Nat) (p q:Addr×HO),p∈ns→q∈own i→p.1≠q.1
noncomputable def Zmy(Z:Ent K)(F H:Hp)(σ:St)(own:Nat→Zk):RV→V→Prop
 | .tmp sv,v=>∃ns,TmpOk Z F H own sv v ns
 | .bw i,v=>σ[i]? =some (some v)
theorem TmpOk.fz{Z:Ent K}{F H:Hp}{own:Nat→Zk}{d:D}{v:V}(h:Rep K F d v):TmpOk Z F H own (.fz d) v []:=
 ⟨.fz h,List.nodup_nil,fun _ h=>(nomatch h),fun _ _ _ h=>(nomatch h)⟩
theorem Zbp{H:Hp}{p:Addr}{o:HO}(h:H p=none):Same H (upd H p o):=fun b u e=>by
 rw[Zo fun z=>by rw[z,h]at e;cases e];exact e
theorem SR.grow{Z:Ent K}{F H H':Hp}{σ:St}{δ:DSt}{own:Nat→Zk}(s:SR Z F H σ δ own)(h:Same H H'):SR Z F H' σ δ own:=
 ⟨s.le.trans h,s.fro,s.old.trans h,s.len,s.at',s.nod,fun i p hp=>let⟨a,b,c⟩:=s.ok i p hp;⟨a,b,h _ _ c⟩,s.sep⟩
theorem SR.addF{Z:Ent K}{F H:Hp}{σ:St}{δ:DSt}{own:Nat→Zk}{ns:Zk}(s:SR Z F H σ δ own)(nd:(adr ns).Nodup)(hn:∀p∈ns,F p.1=none)(hH:∀p∈ns,H p.1=some p.2)(hz:∀p∈ns,Z.h p.1=none)
  (hs:∀(i:Nat) (p q:Addr×HO),p∈ns→q∈own i→p.1≠q.1):SR Z (addL F ns) H σ δ own:=by
 have sm:=Zan hn
 refine⟨Zip nd s.le hH,Zjt (Z:=(Z.h,Z.f)) nd s.fro hz,s.old,s.len,fun i sv e=>?_,s.nod,fun i p hp=>?_,s.sep⟩
 ·obtain⟨v,h1,h2⟩:=s.at' i sv e
  exact⟨v,h1,h2.mono sm⟩
 ·obtain⟨a,b,c⟩:=s.ok i p hp
  refine⟨?_,b,c⟩
  rw[Zbo fun hb=>?_]
  ·exact a
  ·obtain⟨q,hq,e⟩:=List.mem_map.mp hb
   exact hs i q p hq hp e
theorem SR.settle{Z:Ent K}{F H:Hp}{σ:St}{δ:DSt}{own:Nat→Zk}{sv:SV}{v:V}{ns:Zk}(s:SR Z F H σ δ own)(t:TmpOk Z F H own sv v ns):
  ∃F1,Same F F1∧SR Z F1 H σ δ own∧Rep K F1 sv.toD v:=
 ⟨addL F ns,Zan fun p hp=>(t.ok p hp).1,s.addF t.nd (fun p hp=>(t.ok p hp).1) (fun p hp=>(t.ok p hp).2.2) (fun p hp=>(t.ok p hp).2.1) t.sep,t.sh.rep t.nd fun p hp=>(t.ok p hp).1⟩
noncomputable def put(own:Nat→Zk)(i:Nat)(ns:Zk):Nat→Zk:=fun j=>if j=i then ns else own j
theorem Zn{own:Nat→Zk}{i:Nat}{ns:Zk}:put own i ns i=ns:=if_pos rfl
theorem Zv{own:Nat→Zk}{i j:Nat}{ns:Zk}(h:j≠i):put own i ns j=own j:=if_neg h
theorem SR.freeze{Z:Ent K}{F H:Hp}{σ:St}{δ:DSt}{own:Nat→Zk}{i:Nat}{sv:SV}(s:SR Z F H σ δ own)(e:δ[i]? =some (some sv)):
  ∃F1 v,Same F F1∧σ[i]? =some (some v)∧Rep K F1 sv.toD v∧SR Z F1 H σ (δ.set i (some (.fz sv.toD))) (put own i []):=by
 obtain⟨v,h1,h2⟩:=s.at' i sv e
 have hn:∀p∈own i,F p.1=none:=fun p hp=>(s.ok i p hp).1
 have sm:=Zan hn
 have hi:i<δ.length:=(List.getElem?_eq_some_iff.mp e).1
 refine⟨addL F (own i),v,sm,h1,h2.rep (s.nod i) hn,⟨Zip (s.nod i) s.le fun p hp=>(s.ok i p hp).2.2,Zjt (Z:=(Z.h,Z.f)) (s.nod i) s.fro fun p hp=>(s.ok i p hp).2.1,s.old,by rw[List.length_set];exact s.len,fun j sw ej=>?_,fun j=>?_,fun j p hp=>?_,fun j k p q hjk hp hq=>?_⟩⟩
 ·by_cases hj:j=i
  ·subst hj
   rw[List.getElem?_set_self hi]at ej
   cases ej
   rw[Zn]
   exact⟨v,h1,.fz (h2.rep (s.nod j) hn)⟩
  ·rw[List.getElem?_set_ne (Ne.symm hj)]at ej
   obtain⟨w,g1,g2⟩:=s.at' j sw ej
   rw[Zv hj]
   exact⟨w,g1,g2.mono sm⟩
 ·by_cases hj:j=i
  ·subst hj;rw[Zn];exact List.nodup_nil
  ·rw[Zv hj];exact s.nod j
 ·by_cases hj:j=i
  ·subst hj;rw[Zn]at hp;exact nomatch hp
  ·rw[Zv hj]at hp
   obtain⟨a,b,c⟩:=s.ok j p hp
   refine⟨?_,b,c⟩
   rw[Zbo fun hb=>?_]
   ·exact a
   ·obtain⟨q,hq,z⟩:=List.mem_map.mp hb
    exact s.sep i j q p (Ne.symm hj) hq hp z
 ·by_cases hj:j=i
  ·subst hj;rw[Zn]at hp;exact nomatch hp
  ·by_cases hk:k=i
   ·subst hk;rw[Zn]at hq;exact nomatch hq
   ·rw[Zv hj]at hp
    rw[Zv hk]at hq
    exact s.sep j k p q hjk hp hq
theorem SR.store{Z:Ent K}{F H:Hp}{σ:St}{δ:DSt}{own:Nat→Zk}{i:Nat}{sv:SV}{v:V}{ns:Zk}(s:SR Z F H σ δ own)(t:TmpOk Z F H own sv v ns)(hi:i<σ.length):
  SR Z F H (σ.set i (some v)) (δ.set i (some sv)) (put own i ns):=by
 refine⟨s.le,s.fro,s.old,by rw[List.length_set,List.length_set];exact s.len,fun j sw ej=>?_,fun j=>?_,fun j p hp=>?_,fun j k p q hjk hp hq=>?_⟩
 ·by_cases hj:j=i
  ·subst hj
   have hd:j<δ.length:=by
    have:=(List.getElem?_eq_some_iff.mp ej).1
    simpa using this
   rw[List.getElem?_set_self hd]at ej
   cases ej
   rw[Zn,List.getElem?_set_self hi]
   exact⟨v,rfl,t.sh⟩
  ·rw[List.getElem?_set_ne (Ne.symm hj)]at ej
   rw[Zv hj,List.getElem?_set_ne (Ne.symm hj)]
   exact s.at' j sw ej
 ·by_cases hj:j=i
  ·subst hj;rw[Zn];exact t.nd
  ·rw[Zv hj];exact s.nod j
 ·by_cases hj:j=i
  ·subst hj;rw[Zn]at hp;exact t.ok p hp
  ·rw[Zv hj]at hp;exact s.ok j p hp
 ·by_cases hj:j=i
  ·subst hj
   rw[Zn]at hp
   rw[Zv (Ne.symm hjk)]at hq
   exact t.sep k p q hp hq
  ·by_cases hk:k=i
   ·subst hk
    rw[Zn]at hq
    rw[Zv hj]at hp
    exact Ne.symm (t.sep j q p hq hp)
   ·rw[Zv hj]at hp
    rw[Zv hk]at hq
    exact s.sep j k p q hjk hp hq
theorem SR.change{Z:Ent K}{F H:Hp}{σ:St}{δ:DSt}{own:Nat→Zk}{i:Nat}{sv sv':SV}{a:Addr}{o o':HO}{v:V}{ns':Zk}(s:SR Z F H σ δ own)(e:δ[i]? =some (some sv))(hv:σ[i]? =some (some v))
  (ha:(a,o)∈own i) (hs:Shape K F sv' v ns') (hns:∀p∈ns',p=(a,o')∨(p∈own i∧p.1≠a)) (nd:(adr ns').Nodup):SR Z F (upd H a o') σ (δ.set i (some sv')) (put own i ns'):=by
 obtain⟨fa,ha0,hHa⟩:=s.ok i (a,o) ha
 have hi:i<δ.length:=(List.getElem?_eq_some_iff.mp e).1
 refine⟨fun b u eb=>?_,s.fro,fun b u eb=>?_,by rw[List.length_set];exact s.len,fun j sw ej=>?_,fun j=>?_,fun j p hp=>?_,fun j k p q hjk hp hq=>?_⟩
 ·rw[Zo fun z=>by rw[z]at eb;rw[fa]at eb;cases eb];exact s.le b u eb
 ·rw[Zo fun z=>by rw[z]at eb;rw[ha0]at eb;cases eb];exact s.old b u eb
 ·by_cases hj:j=i
  ·subst hj
   rw[List.getElem?_set_self hi]at ej
   cases ej
   rw[Zn]
   exact⟨v,hv,hs⟩
  ·rw[List.getElem?_set_ne (Ne.symm hj)]at ej
   rw[Zv hj]
   exact s.at' j sw ej
 ·by_cases hj:j=i
  ·subst hj;rw[Zn];exact nd
  ·rw[Zv hj];exact s.nod j
 ·by_cases hj:j=i
  ·subst hj
   rw[Zn]at hp
   rcases hns p hp with z|⟨z,ne⟩
   ·subst z;exact⟨fa,ha0,Z3⟩
   ·obtain⟨x,y,w⟩:=s.ok j p z
    exact⟨x,y,by rw[Zo ne];exact w⟩
  ·rw[Zv hj]at hp
   obtain⟨x,y,w⟩:=s.ok j p hp
   exact⟨x,y,by rw[Zo (s.sep j i p (a,o) hj hp ha)];exact w⟩
 ·have own':∀r∈ns',∃r'∈own i,r.1=r'.1:=fun r hr=>by
   rcases hns r hr with z|⟨z,_⟩
   ·subst z;exact⟨(a,o),ha,rfl⟩
   ·exact⟨r,z,rfl⟩
  by_cases hj:j=i
  ·subst hj
   rw[Zn]at hp
   rw[Zv (Ne.symm hjk)]at hq
   obtain⟨r',hr',er⟩:=own' p hp
   rw[er]
   exact s.sep j k r' q hjk hr' hq
  ·by_cases hk:k=i
   ·subst hk
    rw[Zn]at hq
    rw[Zv hj]at hp
    obtain⟨r',hr',er⟩:=own' q hq
    rw[er]
    exact s.sep j k p r' hjk hp hr'
   ·rw[Zv hj]at hp
    rw[Zv hk]at hq
    exact s.sep j k p q hjk hp hq
end DL
namespace DL
open PySem L2
variable{K:PySem.W.Frag}
noncomputable abbrev FE:=DSt→Option (RV×DSt)
noncomputable abbrev FT:=DSt→Option (Bool×DSt)
noncomputable abbrev FA:=DSt→Option (List RV×DSt)
noncomputable abbrev FD:=DSt→Option (List D×DSt)
@[simp] noncomputable def SV.nested:SV→Bool
 | .oN _ _=>true
 | .oL _ _=>true
 |_=>false
@[simp] noncomputable def rdv:RV→DSt→Option D
 | .tmp sv,_=>some sv.toD
 | .bw i,δ=>(δ[i]?.join).bind fun sv=>if sv.nested then none else some sv.toD
@[simp] noncomputable def frz:RV→DSt→Option (D×DSt)
 | .tmp sv,δ=>some (sv.toD,δ)
 | .bw i,δ=>(δ[i]?.join).bind fun sv=>some (sv.toD,δ.set i (some (.fz sv.toD)))
theorem Zbz{δ:DSt}{i:Nat}{sv:SV}(h:δ[i]?.join=some sv):δ[i]? =some (some sv):=by
 cases e:δ[i]? with
 |none=>rw[e]at h;cases h
 |some o=>rw[e]at h;cases o with
  |none=>cases h
  |some s=>cases h;rfl
noncomputable def Zb(Z:Ent K)(f:FE):TE:=fun σ H Q=>∃F δ own rv δ',SR Z F H σ δ own∧f δ=some (rv,δ')∧
 ∀v H' F' own',Same H H'→Same F F'→SR Z F' H' σ δ' own'→Zmy Z F' H' σ own' rv v→Q v H'
noncomputable def Zaf(Z:Ent K)(f:FT):TT:=fun σ H Q=>∃F δ own b δ',SR Z F H σ δ own∧f δ=some (b,δ')∧
 ∀H' F' own',Same H H'→Same F F'→SR Z F' H' σ δ' own'→Q b H'
noncomputable def RVS(K:PySem.W.Frag)(F:Hp)(σ:St):RV→V→Prop
 | .tmp sv,v=>Rep K F sv.toD v
 | .bw i,v=>σ[i]? =some (some v)
inductive RVSs(K:PySem.W.Frag)(F:Hp)(σ:St):List RV→List V→Prop where
 |nil:RVSs K F σ [] []
 |cons {rv:RV} {v:V} {rvs:List RV} {vs:List V} (h:RVS K F σ rv v) (t:RVSs K F σ rvs vs):RVSs K F σ (rv::rvs) (v::vs)
noncomputable def Zc8(Z:Ent K)(f:FA):TA:=fun σ H Q=>∃F δ own rvs δ',SR Z F H σ δ own∧f δ=some (rvs,δ')∧
 ∀vs H' F' own',Same H H'→Same F F'→SR Z F' H' σ δ' own'→RVSs K F' σ rvs vs→Q vs H'
noncomputable def Zay(Z:Ent K)(f:FD):TA:=fun σ H Q=>∃F δ own ds δ',SR Z F H σ δ own∧f δ=some (ds,δ')∧
 ∀vs H' F' own',Same H H'→Same F F'→SR Z F' H' σ δ' own'→Reps K F' ds vs→Q vs H'
section
variable{Z:Ent K}{F H F' H':Hp}{σ:St}{δ δ':DSt}{own:Nat→Zk}{rv:RV}{v:V}{d:D}{Q:VK}
theorem RVS.mono(s:Same F F')(h:RVS K F σ rv v):RVS K F' σ rv v:=by
 cases rv with
 |tmp sv=>exact Rep.mono s h
 |bw i=>exact h
theorem SR.settleR(s:SR Z F H σ δ own)(h:Zmy Z F H σ own rv v):∃F1,Same F F1∧SR Z F1 H σ δ own∧RVS K F1 σ rv v:=by
 cases rv with
 |tmp sv=>obtain⟨ns,t⟩:=h;exact s.settle t
 |bw i=>exact⟨F,Same.refl F,s,h⟩
theorem SR.frzR(s:SR Z F H σ δ own)(h:RVS K F σ rv v)(e:frz rv δ=some (d,δ')):∃F1 own1,Same F F1∧SR Z F1 H σ δ' own1∧Rep K F1 d v:=by
 cases rv with
 |tmp sv=>cases e;exact⟨F,own,Same.refl F,s,h⟩
 |bw i=>
  obtain⟨sv,e1,e2⟩:=Option.bind_eq_some_iff.mp e
  cases e2
  obtain⟨F1,w,h1,h2,h3,h4⟩:=s.freeze (Zbz e1)
  have h':σ[i]? =some (some v):=h
  rw[h']at h2;cases h2
  exact⟨F1,_,h1,h4,h3⟩
noncomputable def RepN(K:PySem.W.Frag)(F H:Hp)(d:D)(v:V):Prop:=∃sv ns,sv.toD=d∧sv.nested=false∧Shape K F sv v ns∧∀p∈ns,H p.1=some p.2
theorem RepN.of(h:Rep K F d v):RepN K F H d v:=⟨.fz d,[],rfl,rfl,.fz h,fun _ h=>nomatch h⟩
theorem SR.rd(s:SR Z F H σ δ own)(h:RVS K F σ rv v)(e:rdv rv δ=some d):RepN K F H d v:=by
 cases rv with
 |tmp sv=>cases e;exact RepN.of h
 |bw i=>
  obtain⟨sv,e1,e2⟩:=Option.bind_eq_some_iff.mp e
  cases hn:sv.nested with
  |true=>rw[hn]at e2;cases e2
  |false=>
   rw[hn]at e2
   cases e2
   obtain⟨w,h1,h2⟩:=s.at' i sv (Zbz e1)
   have h':σ[i]? =some (some v):=h
   rw[h']at h1;cases h1
   exact⟨sv,own i,rfl,hn,h2,fun p hp=>(s.ok i p hp).2.2⟩
inductive RepNs(K:PySem.W.Frag)(F H:Hp):List D→List V→Prop where
 |nil:RepNs K F H [] []
 |cons {d:D} {v:V} {ds:List D} {vs:List V} (h:RepN K F H d v) (t:RepNs K F H ds vs):RepNs K F H (d::ds) (v::vs)
theorem RepN.non(h:RepN K F H .non v):v= .non:=by
 obtain⟨sv,ns,e,n,sh,hp⟩:=h
 cases sh with
 |fz r=>cases e;cases r;rfl
 |ol r=>cases e
 |oK e' r=>cases e
 |oT kb e' r=>cases e
 |oN e' r=>cases n
 |oL _ r=>cases n
 |oQ e' r=>cases e
theorem RepN.bl{b:Bool}(h:RepN K F H (.bl b) v):v= .bl b:=by
 obtain⟨sv,ns,e,n,sh,hp⟩:=h
 cases sh with
 |fz r=>cases e;cases r;rfl
 |ol r=>cases e
 |oK e' r=>cases e
 |oT kb e' r=>cases e
 |oN e' r=>cases n
 |oL _ r=>cases n
 |oQ e' r=>cases e
theorem RepN.int{i:Int}(h:RepN K F H (.int i) v):v= .int i:=by
 obtain⟨sv,ns,e,n,sh,hp⟩:=h
 cases sh with
 |fz r=>cases e;cases r;rfl
 |ol r=>cases e
 |oK e' r=>cases e
 |oT kb e' r=>cases e
 |oN e' r=>cases n
 |oL _ r=>cases n
 |oQ e' r=>cases e
theorem RepN.str{x:Str}(h:RepN K F H (.str x) v):v= .str x:=by
 obtain⟨sv,ns,e,n,sh,hp⟩:=h
 cases sh with
 |fz r=>cases e;cases r;rfl
 |ol r=>cases e
 |oK e' r=>cases e
 |oT kb e' r=>cases e
 |oN e' r=>cases n
 |oL _ r=>cases n
 |oQ e' r=>cases e
theorem RepN.tup{xs:List D}(le:Same F H)(h:RepN K F H (.tup xs) v):∃a vs,v= .ref a∧SqT K H a vs∧Reps K F xs vs:=by
 obtain⟨sv,ns,e,n,sh,hp⟩:=h
 cases sh with
 |fz r=>cases e;cases r with|tup h r=>exact⟨_,_,rfl,Zat le (Zd4 h),r⟩
 |ol r=>cases e
 |oK e' r=>cases e
 |oT kb e' r=>cases e
 |oN e' r=>cases n
 |oL _ r=>cases n
 |oQ e' r=>cases e
theorem RepN.lst{xs:List D}(le:Same F H)(h:RepN K F H (.lst xs) v):∃a vs,v= .ref a∧SqL K H a vs∧Reps K F xs vs:=by
 obtain⟨sv,ns,e,n,sh,hp⟩:=h
 cases sh with
 |fz r=>cases e;cases r with|lst h r=>exact⟨_,_,rfl,Zah le h,r⟩
 |ol r=>cases e;exact⟨_,_,rfl,.inl (.inl (hp _ List.mem_cons_self)),r⟩
 |oK e' r=>cases e
 |oT kb e' r=>cases e
 |oN e' r=>cases n
 |oL _ r=>cases n
 |oQ e' r=>cases e
theorem RepN.dK{ks:List Key}{ds:List D}(le:Same F H)(h:RepN K F H (.dK ks ds) v):∃a kvs,v= .ref a∧HK H a kvs∧kvs.map (·.1)=ks∧Reps K F ds (kvs.map (·.2)):=by
 obtain⟨sv,ns,e,n,sh,hp⟩:=h
 cases sh with
 |fz r=>cases e;cases r with|dK h e r=>exact⟨_,_,rfl,⟨_,le _ _ h⟩,e,r⟩
 |ol r=>cases e
 |oK e' r=>cases e;exact⟨_,_,rfl,⟨_,hp _ List.mem_cons_self⟩,e',r⟩
 |oT kb e' r=>cases e
 |oN e' r=>cases n
 |oL _ r=>cases n
 |oQ e' r=>cases e;exact⟨_,_,rfl,⟨_,hp _ List.mem_cons_self⟩,e',r⟩
theorem RepN.dT{ks:List (List Key)}{ds:List D}(le:Same F H)(h:RepN K F H (.dT ks ds) v):∃a kvs,v= .ref a∧HTt H a kvs∧kvs.map (·.1)=ks∧Reps K F ds (kvs.map (·.2)):=by
 obtain⟨sv,ns,e,n,sh,hp⟩:=h
 cases sh with
 |fz r=>cases e;cases r with|dT h kb e r=>exact⟨_,_,rfl,⟨_,_,le _ _ h⟩,e,r⟩
 |ol r=>cases e
 |oK e' r=>cases e
 |oT kb e' r=>cases e;exact⟨_,_,rfl,⟨_,_,hp _ List.mem_cons_self⟩,e',r⟩
 |oN e' r=>cases n
 |oL _ r=>cases n
 |oQ e' r=>cases e
end
theorem nd1{a:Addr}:([a]:List Addr).Nodup:=List.nodup_cons.mpr ⟨fun h=>(nomatch h),List.nodup_nil⟩
noncomputable def Fin(Z:Ent K)(F H:Hp)(σ:St)(δ:DSt)(own:Nat→Zk)(sv:SV)(Q:VK):Prop:=
 ∀v H' F' ns,Same H H'→Same F F'→SR Z F' H' σ δ own→TmpOk Z F' H' own sv v ns→Q v H'
section
variable{Z:Ent K}{F H:Hp}{σ:St}{δ:DSt}{own:Nat→Zk}{Q:VK}
theorem Fin.fz{d:D}{v:V}(f:Fin Z F H σ δ own (.fz d) Q)(s:SR Z F H σ δ own)(h:Rep K F d v):Q v H:=f v H F [] (Same.refl H) (Same.refl F) s (.fz h)
theorem Fin.one{sv:SV}{o:HO}{p:Addr}(f:Fin Z F H σ δ own sv Q)(s:SR Z F H σ δ own)(sh:Shape K F sv (.ref p) [(p,o)])(hp:H p=none):Q (.ref p) (upd H p o):=by
 have sm:=Zbp (o:=o) hp
 refine f (.ref p) (upd H p o) F [(p,o)] sm (Same.refl F) (s.grow sm) ⟨sh,nd1,fun q hq=>?_,fun i q r hq hr=>?_⟩
 ·obtain rfl:=List.mem_singleton.mp hq
  exact⟨s.le.free hp,s.old.free hp,Z3⟩
 ·obtain rfl:=List.mem_singleton.mp hq
  intro e
  have e':p=r.1:=e
  have z:=(s.ok i r hr).2.2
  rw[←e',hp]at z;cases z
theorem Fin.lst{xs:List D}{vs:List V}{p:Addr}(f:Fin Z F H σ δ own (.ol xs) Q)(s:SR Z F H σ δ own)(r:Reps K F xs vs)(hp:H p=none):Q (.ref p) (upd H p (.lst vs)):=f.one s (.ol r) hp
theorem Fin.tup{xs:List D}{vs:List V}{p:Addr}(f:Fin Z F H σ δ own (.fz (.tup xs)) Q)(s:SR Z F H σ δ own)(r:Reps K F xs vs)(hp:H p=none):Q (.ref p) (upd H p (.tup vs)):=by
 have sm:=Zbp (o:=.tup vs) hp
 have sF:Same F (addL F [(p,.tup vs)]):=Zan fun q hq=>by obtain rfl:=List.mem_singleton.mp hq;exact s.le.free hp
 refine f (.ref p) (upd H p (.tup vs)) (addL F [(p,.tup vs)]) [] sm sF ?_ (.fz (.tup Z3 (r.mono sF)))
 refine(s.grow sm).addF (nd1) (fun q hq=>?_) (fun q hq=>?_) (fun q hq=>?_) fun i q u hq hu=>?_
 ·obtain rfl:=List.mem_singleton.mp hq;exact s.le.free hp
 ·obtain rfl:=List.mem_singleton.mp hq;exact Z3
 ·obtain rfl:=List.mem_singleton.mp hq;exact s.old.free hp
 ·obtain rfl:=List.mem_singleton.mp hq
  intro e
  have e':p=u.1:=e
  have z:=(s.ok i u hu).2.2
  rw[←e',hp]at z;cases z
end
theorem Zbq{F:Hp}{d:D}{v:V}{ns:Zk}(h:Shape K F (.fz d) v ns):Rep K F d v:=by
 cases h with
 |fz r=>exact r
section
variable{Z:Ent K}{H:Hp}{σ:St}{Q:VK}
@[simp] noncomputable def Zd(i:Nat):FE:=fun δ=>match δ[i]? with
 |some (some (.fz d))=>some (.tmp (.fz d),δ)
 |some (some _)=>some (.bw i,δ)
 |_=>none
theorem Zzr{i:Nat}(h:Zb Z (Zd i) σ H Q):tVar i σ H Q:=by
 obtain⟨F,δ,own,rv,δ',s,e,k⟩:=h
 unfold Zd at e
 split at e
 ·rename_i d hd
  cases e
  obtain⟨v,h1,h2⟩:=s.at' i _ hd
  exact⟨v,h1,k v H F own (Same.refl H) (Same.refl F) s ⟨[],.fz (Zbq h2)⟩⟩
 ·rename_i sv hsv hd
  cases e
  obtain⟨v,h1,h2⟩:=s.at' i _ hd
  exact⟨v,h1,k v H F own (Same.refl H) (Same.refl F) s h1⟩
 ·cases e
@[simp] noncomputable def Za(d:D):FE:=fun δ=>some (.tmp (.fz d),δ)
theorem Zc9{d:D}{v:V}(hr:∀F,Rep K F d v)(h:Zb Z (Za d) σ H Q):tC v σ H Q:=by
 obtain⟨F,δ,own,rv,δ',s,e,k⟩:=h
 cases e
 exact k v H F own (Same.refl H) (Same.refl F) s ⟨[],.fz (hr F)⟩
@[simp] noncomputable def Zi:FA:=fun δ=>some ([],δ)
@[simp] noncomputable def Zc(fe:FE)(fa:FA):FA:=fun δ=>(fe δ).bind fun p=>(fa p.2).bind fun q=>some (p.1::q.1,q.2)
theorem Zpz{R:List V→Hp→Prop}(h:Zc8 Z Zi σ H R):tNil σ H R:=by
 obtain⟨F,δ,own,rvs,δ',s,e,k⟩:=h
 cases e
 exact k [] H F own (Same.refl H) (Same.refl F) s .nil
theorem Zmz{fe:FE}{fa:FA}{R:List V→Hp→Prop}(h:Zc8 Z (Zc fe fa) σ H R):Zk9 (Zb Z fe) (Zc8 Z fa) σ H R:=by
 obtain⟨F,δ,own,rvs,δ',s,e,k⟩:=h
 obtain⟨⟨rv,δ1⟩,e1,e2⟩:=Option.bind_eq_some_iff.mp e
 obtain⟨⟨rr,δ2⟩,e3,e4⟩:=Option.bind_eq_some_iff.mp e2
 cases e4
 refine⟨F,δ,own,rv,δ1,s,e1,fun v H1 F1 own1 sH sF s1 r1=>?_⟩
 obtain⟨F2,sF2,s2,r2⟩:=s1.settleR r1
 exact⟨F2,δ1,own1,rr,δ2,s2,e3,fun vs H3 F3 own3 sH3 sF3 s3 r3=>k _ H3 F3 own3 (sH.trans sH3) (sF.trans (sF2.trans sF3)) s3 (.cons (r2.mono sF3) r3)⟩
@[simp] noncomputable def Zcl:List RV→DSt→Option (List D)
 | [],_=>some []
 |rv::r,δ=>(rdv rv δ).bind fun d=>(Zcl r δ).bind fun ds=>some (d::ds)
theorem SR.rdAll{F:Hp}{δ:DSt}{own:Nat→Zk}(s:SR Z F H σ δ own):∀{rvs:List RV} {vs:List V} {ds:List D},RVSs K F σ rvs vs→Zcl rvs δ=some ds→RepNs K F H ds vs
 |_,_,_,.nil,e=>by cases e;exact .nil
 |_,_,_,.cons h t,e=>by
  obtain⟨d,e1,e2⟩:=Option.bind_eq_some_iff.mp e
  obtain⟨ds,e3,e4⟩:=Option.bind_eq_some_iff.mp e2
  cases e4
  exact .cons (s.rd h e1) (s.rdAll t e3)
@[simp] noncomputable def Zda(g:List D→Option SV)(fa:FA):FE:=fun δ=>(fa δ).bind fun p=>(Zcl p.1 p.2).bind fun ds=>(g ds).bind fun sv=>some (.tmp sv,p.2)
noncomputable def Zfp(Z:Ent K)(r:List V→Hp→VK→Prop)(g:List D→Option SV):Prop:=
 ∀(F H:Hp) (σ:St) (δ:DSt) (own:Nat→Zk) (vs:List V) (ds:List D) (sv:SV) (Q:VK),SR Z F H σ δ own→RepNs K F H ds vs→g ds=some sv→Fin Z F H σ δ own sv Q→r vs H Q
theorem Zm0{r:List V→Hp→VK→Prop}{g:List D→Option SV}{fa:FA}(hg:Zfp Z r g)(h:Zb Z (Zda g fa) σ H Q):tCB r (Zc8 Z fa) σ H Q:=by
 obtain⟨F,δ,own,rv,δ',s,e,k⟩:=h
 obtain⟨⟨rvs,δ1⟩,e1,e2⟩:=Option.bind_eq_some_iff.mp e
 obtain⟨ds,e3,e4⟩:=Option.bind_eq_some_iff.mp e2
 obtain⟨sv,e5,e6⟩:=Option.bind_eq_some_iff.mp e4
 cases e6
 refine⟨F,δ,own,rvs,δ1,s,e1,fun vs H1 F1 own1 sH sF s1 r1=>?_⟩
 exact hg F1 H1 σ δ1 own1 vs ds sv Q s1 (s1.rdAll r1 e3) e5 fun v H2 F2 ns sH2 sF2 s2 t=>k v H2 F2 own1 (sH.trans sH2) (sF.trans sF2) s2 ⟨ns,t⟩
@[simp] noncomputable def g2(g:D→D→Option SV):List D→Option SV
 | [x,y]=>g x y
 |_=>none
@[simp] noncomputable def binF(g:D→D→Option SV)(fa fb:FE):FE:=Zda (g2 g) (Zc fa (Zc fb Zi))
noncomputable def Z8(Z:Ent K)(r:R2)(g:D→D→Option SV):Prop:=
 ∀(F H:Hp) (σ:St) (δ:DSt) (own:Nat→Zk) (x y:V) (d1 d2:D) (sv:SV) (Q:VK),SR Z F H σ δ own→RepN K F H d1 x→RepN K F H d2 y→g d1 d2=some sv→Fin Z F H σ δ own sv Q→r x y H Q
theorem Zm1{r:R2}{g:D→D→Option SV}{fa fb:FE}(hg:Z8 Z r g)(h:Zb Z (binF g fa fb) σ H Q):tOp r (Zb Z fa) (Zb Z fb) σ H Q:=by
 have hN:Zfp Z (fun vs H Q=>∃x y,vs=[x,y]∧r x y H Q) (g2 g):=by
  intro F H σ δ own vs ds sv Q s rs e f
  cases rs with
  |nil=>cases e
  |cons h1 t1=>
   cases t1 with
   |nil=>cases e
   |cons h2 t2=>
    cases t2 with
    |nil=>exact⟨_,_,rfl,hg F H σ δ own _ _ _ _ sv Q s h1 h2 e f⟩
    |cons h3 t3=>cases e
 obtain⟨F,δ,own,rv,δ',s,e,k⟩:=Zm0 hN h
 obtain⟨⟨rv1,δ1⟩,e1,e2⟩:=Option.bind_eq_some_iff.mp e
 obtain⟨⟨rr,δ2⟩,e3,e4⟩:=Option.bind_eq_some_iff.mp e2
 cases e4
 obtain⟨⟨rv2,δ3⟩,e5,e6⟩:=Option.bind_eq_some_iff.mp e3
 obtain⟨⟨rr',δ4⟩,e7,e8⟩:=Option.bind_eq_some_iff.mp e6
 cases e8
 cases e7
 refine⟨F,δ,own,rv1,δ1,s,e1,fun v H1 F1 own1 sH sF s1 r1=>?_⟩
 obtain⟨F2,sF2,s2,r2⟩:=s1.settleR r1
 refine⟨F2,δ1,own1,rv2,δ3,s2,e5,fun u H3 F3 own3 sH3 sF3 s3 r3=>?_⟩
 obtain⟨F4,sF4,s4,r4⟩:=s3.settleR r3
 obtain⟨x,y,exy,q⟩:=k [v,u] H3 F4 own3 (sH.trans sH3) (sF.trans (sF2.trans (sF3.trans sF4))) s4 (.cons (r2.mono (sF3.trans sF4)) (.cons r4 .nil))
 injection exy with ex ey
 injection ey with ey _
 subst ex ey
 exact q
@[simp] noncomputable def unF(g:D→Option SV)(fa:FE):FE:=Zda (fun| [x]=>g x|_=>none) (Zc fa Zi)
noncomputable def Zwe(Z:Ent K)(r:V→Hp→VK→Prop)(g:D→Option SV):Prop:=
 ∀(F H:Hp) (σ:St) (δ:DSt) (own:Nat→Zk) (x:V) (d:D) (sv:SV) (Q:VK),SR Z F H σ δ own→RepN K F H d x→g d=some sv→Fin Z F H σ δ own sv Q→r x H Q
theorem l_un{r:V→Hp→VK→Prop}{g:D→Option SV}{fa:FE}(hg:Zwe Z r g)(h:Zb Z (unF g fa) σ H Q):tUn r (Zb Z fa) σ H Q:=by
 obtain⟨F,δ,own,rv,δ',s,e,k⟩:=h
 obtain⟨⟨rvs,δ1⟩,e1,e2⟩:=Option.bind_eq_some_iff.mp e
 obtain⟨ds,e3,e4⟩:=Option.bind_eq_some_iff.mp e2
 obtain⟨sv,e5,e6⟩:=Option.bind_eq_some_iff.mp e4
 cases e6
 obtain⟨⟨rv1,δ2⟩,e7,e8⟩:=Option.bind_eq_some_iff.mp e1
 obtain⟨⟨rr',δ4⟩,e9,e10⟩:=Option.bind_eq_some_iff.mp e8
 cases e10
 cases e9
 obtain⟨d,e11,e12⟩:=Option.bind_eq_some_iff.mp e3
 cases e12
 refine⟨F,δ,own,rv1,δ2,s,e7,fun v H1 F1 own1 sH sF s1 r1=>?_⟩
 obtain⟨F2,sF2,s2,r2⟩:=s1.settleR r1
 exact hg F2 H1 σ δ2 own1 v d sv Q s2 (s2.rd r2 e11) e5 fun v H2 F2' ns sH2 sF2' s2 t=>k v H2 F2' own1 (sH.trans sH2) (sF.trans (sF2.trans sF2')) s2 ⟨ns,t⟩
@[simp] noncomputable def Zs:FD:=fun δ=>some ([],δ)
@[simp] noncomputable def Zh(fe:FE)(fd:FD):FD:=fun δ=>(fe δ).bind fun p=>(frz p.1 p.2).bind fun q=>(fd q.2).bind fun r=>some (q.1::r.1,r.2)
theorem Zm2{R:List V→Hp→Prop}(h:Zay Z Zs σ H R):tNil σ H R:=by
 obtain⟨F,δ,own,rvs,δ',s,e,k⟩:=h
 cases e
 exact k [] H F own (Same.refl H) (Same.refl F) s .nil
theorem Ze7{fe:FE}{fd:FD}{R:List V→Hp→Prop}(h:Zay Z (Zh fe fd) σ H R):Zk9 (Zb Z fe) (Zay Z fd) σ H R:=by
 obtain⟨F,δ,own,rvs,δ',s,e,k⟩:=h
 obtain⟨⟨rv,δ1⟩,e1,e2⟩:=Option.bind_eq_some_iff.mp e
 obtain⟨⟨d,δ2⟩,e3,e4⟩:=Option.bind_eq_some_iff.mp e2
 obtain⟨⟨ds,δ3⟩,e5,e6⟩:=Option.bind_eq_some_iff.mp e4
 cases e6
 refine⟨F,δ,own,rv,δ1,s,e1,fun v H1 F1 own1 sH sF s1 r1=>?_⟩
 obtain⟨F2,sF2,s2,r2⟩:=s1.settleR r1
 obtain⟨F3,own3,sF3,s3,r3⟩:=s2.frzR r2 e3
 exact⟨F3,δ2,own3,ds,δ3,s3,e5,fun vs H4 F4 own4 sH4 sF4 s4 r4=>k _ H4 F4 own4 (sH.trans sH4) (sF.trans (sF2.trans (sF3.trans sF4))) s4 (.cons (r3.mono sF4) r4)⟩
@[simp] noncomputable def tupF(fd:FD):FE:=fun δ=>(fd δ).bind fun p=>if p.1.length≤PySem.sizeLine then some (.tmp (.fz (.tup p.1)),p.2)else none
@[simp] noncomputable def lstF(fd:FD):FE:=fun δ=>(fd δ).bind fun p=>if p.1.length≤PySem.sizeLine then some (.tmp (.ol p.1),p.2)else none
theorem Zzs{fd:FD}(h:Zb Z (tupF fd) σ H Q):tTup (Zay Z fd) σ H Q:=by
 obtain⟨F,δ,own,rv,δ',s,e,k⟩:=h
 obtain⟨⟨ds,δ1⟩,e1,e2⟩:=Option.bind_eq_some_iff.mp e
 by_cases hz:ds.length≤PySem.sizeLine
 ·rw[if_pos hz]at e2
  cases e2
  refine⟨F,δ,own,ds,δ1,s,e1,fun vs H1 F1 own1 sH sF s1 r1=>⟨by rw[←r1.length];exact hz,fun p hp=>?_⟩⟩
  exact Fin.tup (fun v H2 F2 ns a b c t=>k v H2 F2 own1 (sH.trans a) (sF.trans b) c ⟨ns,t⟩) s1 r1 hp
 ·rw[if_neg hz]at e2;cases e2
theorem Zzt{fd:FD}(h:Zb Z (lstF fd) σ H Q):tLst (Zay Z fd) σ H Q:=by
 obtain⟨F,δ,own,rv,δ',s,e,k⟩:=h
 obtain⟨⟨ds,δ1⟩,e1,e2⟩:=Option.bind_eq_some_iff.mp e
 by_cases hz:ds.length≤PySem.sizeLine
 ·rw[if_pos hz]at e2
  cases e2
  refine⟨F,δ,own,ds,δ1,s,e1,fun vs H1 F1 own1 sH sF s1 r1=>⟨by rw[←r1.length];exact hz,fun p hp=>?_⟩⟩
  exact Fin.lst (fun v H2 F2 ns a b c t=>k v H2 F2 own1 (sH.trans a) (sF.trans b) c ⟨ns,t⟩) s1 r1 hp
 ·rw[if_neg hz]at e2;cases e2
end
@[simp] noncomputable def SV.scal:SV→Bool
 | .fz .non=>true
 | .fz (.bl _)=>true
 | .fz (.int _)=>true
 | .fz (.str _)=>true
 |_=>false
noncomputable def spOf(K:PySem.W.Frag)(n:Nat)(g:List D→Option SV):Sp:=fun vs H Q _=>∃F ds sv,Same F H∧Reps K F ds vs∧ds.length=n∧g ds=some sv∧
 ∀v H' F' ns,Same H H'→Same F F'→Same F' H'→(∀(b:Addr) (o:HO),F' b=some o→F b=some o∨H b=none)→Shape K F' sv v ns→(adr ns).Nodup→(∀p∈ns,F' p.1=none∧H p.1=none∧H' p.1=some p.2)→Q v H'
@[simp] noncomputable def frzAll:List RV→DSt→Option (List D×DSt)
 | [],δ=>some ([],δ)
 |rv::r,δ=>(frz rv δ).bind fun p=>(frzAll r p.2).bind fun q=>some (p.1::q.1,q.2)
theorem RVSs.mono{F F':Hp}{σ:St}(s:Same F F'){rvs:List RV}{vs:List V}(h:RVSs K F σ rvs vs):RVSs K F' σ rvs vs:=by
 induction h with
 |nil=>exact .nil
 |cons h _ ih=>exact .cons (h.mono s) ih
section
variable{Z:Ent K}{H:Hp}{σ:St}{Q:VK}
theorem SR.frzAll{F:Hp}{δ:DSt}{own:Nat→Zk}:∀{rvs:List RV} {vs:List V} {ds:List D} {δ':DSt} {F:Hp} {δ:DSt} {own:Nat→Zk},SR Z F H σ δ own→RVSs K F σ rvs vs→DL.frzAll rvs δ=some (ds,δ')→
  ∃F1 own1,Same F F1∧SR Z F1 H σ δ' own1∧Reps K F1 ds vs
 |_,_,_,_,F,_,own,s,.nil,e=>by cases e;exact⟨F,own,Same.refl F,s,.nil⟩
 |_,_,_,_,F,_,own,s,.cons h t,e=>by
  obtain⟨⟨d,δ1⟩,e1,e2⟩:=Option.bind_eq_some_iff.mp e
  obtain⟨⟨ds,δ2⟩,e3,e4⟩:=Option.bind_eq_some_iff.mp e2
  cases e4
  obtain⟨F1,own1,sF1,s1,r1⟩:=s.frzR h e1
  obtain⟨F2,own2,sF2,s2,r2⟩:=SR.frzAll (own:=own) (F:=F) (δ:=δ1) s1 (t.mono sF1) e3
  exact⟨F2,own2,sF1.trans sF2,s2,.cons (r1.mono sF2) r2⟩
@[simp] noncomputable def Zau(n:Nat)(g:List D→Option SV)(fa:FA):FE:=fun δ=>(fa δ).bind fun p=>(DL.frzAll p.1 p.2).bind fun q=>if q.1.length=n then(g q.1).bind fun sv=>some (.tmp sv,if sv.scal then p.2 else q.2)else none
theorem Zjv{F F':Hp}{sv:SV}{v:V}{ns:Zk}(h:sv.scal=true)(sh:Shape K F sv v ns):ns=[]∧Shape K F' sv v []:=by
 cases sh with
 |fz r=>
  refine⟨rfl,.fz ?_⟩
  cases r with
  |non=>exact .non
  |bl b=>exact .bl b
  |int i=>exact .int i
  |str x=>exact .str x
  |tup _ _=>cases h
  |lst _ _=>cases h
  |dK _ _ _=>cases h
  |dT _ _ _ _=>cases h
  |exc _ _=>cases h
  |exd _ _ _ _ _=>cases h
 |ol _=>cases h
 |oK _ _=>cases h
 |oT _ _ _=>cases h
 |oN _ _=>cases h
 |oL _ _=>cases h
 |oQ _ _=>cases h
theorem Zwf{n:Nat}{g:List D→Option SV}{fa:FA}{E:XK}(h:Zb Z (Zau n g fa) σ H Q):Zla (spOf K n g) [] E (Zc8 Z fa) σ H Q:=by
 obtain⟨F,δ,own,rv,δ',s,e,k⟩:=h
 obtain⟨⟨rvs,δ1⟩,e1,e2⟩:=Option.bind_eq_some_iff.mp e
 obtain⟨⟨ds,δ2⟩,e3,e4⟩:=Option.bind_eq_some_iff.mp e2
 by_cases hn:ds.length=n
 ·rw[if_pos hn]at e4
  obtain⟨sv,e5,e6⟩:=Option.bind_eq_some_iff.mp e4
  refine⟨F,δ,own,rvs,δ1,s,e1,fun vs H1 F1 own1 sH sF s1 r1=>?_⟩
  obtain⟨F2,own2,sF2,s2,r2⟩:=s1.frzAll (own:=own) (F:=F) (δ:=δ) r1 e3
  rw[List.append_nil]
  refine⟨F2,ds,sv,s2.le,r2,hn,e5,fun v H3 F3 ns sH3 sF3 le3 fro3 sh nd ok=>?_⟩
  by_cases hs:sv.scal=true
  ·rw[if_pos hs]at e6
   cases e6
   obtain⟨_,sh'⟩:=Zjv (F':=F1) hs sh
   exact k v H3 F1 own1 (sH.trans sH3) sF (s1.grow sH3) ⟨[],sh',List.nodup_nil,fun _ h=>(nomatch h),fun _ _ _ h=>(nomatch h)⟩
  ·rw[if_neg hs]at e6
   cases e6
   have s3:SR Z F3 H3 σ δ2 own2:=by
    refine⟨le3,fun b o e=>?_,s2.old.trans sH3,s2.len,fun i sw ei=>?_,s2.nod,fun i p hp=>?_,s2.sep⟩
    ·rcases fro3 b o e with z|z
     ·exact s2.fro b o z
     ·exact .inr (s2.old.free z)
    ·obtain⟨w,h1,h2⟩:=s2.at' i sw ei
     exact⟨w,h1,h2.mono sF3⟩
    ·obtain⟨a,b,c⟩:=s2.ok i p hp
     refine⟨?_,b,sH3 _ _ c⟩
     cases z:F3 p.1 with
     |none=>rfl
     |some u=>
      rcases fro3 _ u z with y|y
      ·rw[a]at y;cases y
      ·rw[c]at y;cases y
   exact k v H3 F3 own2 (sH.trans sH3) (sF.trans (sF2.trans sF3)) s3 ⟨ns,sh,nd,fun p hp=>⟨(ok p hp).1,(s2.old).free (ok p hp).2.1,(ok p hp).2.2⟩,fun i p q hp hq e=>by
    have z:=(s2.ok i q hq).2.2
    rw[←e,(ok p hp).2.1]at z;cases z⟩
 ·rw[if_neg hn]at e4;cases e4
end
end DL
namespace DL
open PySem L2
variable{K:PySem.W.Frag}
section
variable{Z:Ent K}{H:Hp}{σ:St}{R:Bool→Hp→Prop}{Q:VK}
@[simp] noncomputable def Zai(fe:FE):FT:=fun δ=>(fe δ).bind fun p=>match p.1 with
 | .tmp (.fz (.bl b))=>some (b,p.2)
 |_=>none
theorem Zm3{fe:FE}(h:Zaf Z (Zai fe) σ H R):Zvu (Zb Z fe) σ H R:=by
 obtain⟨F,δ,own,b,δ',s,e,k⟩:=h
 obtain⟨⟨rv,δ1⟩,e1,e2⟩:=Option.bind_eq_some_iff.mp e
 refine⟨F,δ,own,rv,δ1,s,e1,fun v H1 F1 own1 sH sF s1 r1=>?_⟩
 dsimp only at e2
 split at e2
 ·cases e2
  obtain⟨ns,t⟩:=r1
  cases Zbq t.sh
  exact⟨_,rfl,k H1 F1 own1 sH sF s1⟩
 ·cases e2
theorem Zs5{fe:FE}(h:Zaf Z (Zai fe) σ H R):tB (Zb Z fe) σ H R:=Zm3 h
@[simp] noncomputable def andF(f g:FT):FT:=fun δ=>(f δ).bind fun p=>if p.1=true then g p.2 else some (false,p.2)
@[simp] noncomputable def orF(f g:FT):FT:=fun δ=>(f δ).bind fun p=>if p.1=true then some (true,p.2)else g p.2
@[simp] noncomputable def notF(f:FT):FT:=fun δ=>(f δ).bind fun p=>some (!p.1,p.2)
theorem l_or{f g:FT}(h:Zaf Z (orF f g) σ H R):tOr (Zaf Z f) (Zaf Z g) σ H R:=by
 obtain⟨F,δ,own,b,δ',s,e,k⟩:=h
 obtain⟨⟨c,δ1⟩,e1,e2⟩:=Option.bind_eq_some_iff.mp e
 refine⟨F,δ,own,c,δ1,s,e1,fun H1 F1 own1 sH sF s1=>?_⟩
 cases c with
 |true=>
  rw[if_pos rfl]at e2⊢
  cases e2
  exact k H1 F1 own1 sH sF s1
 |false=>
  rw[if_neg Bool.false_ne_true]at e2⊢
  exact⟨F1,δ1,own1,b,δ',s1,e2,fun H2 F2 own2 a c d=>k H2 F2 own2 (sH.trans a) (sF.trans c) d⟩
theorem Zzu{f:FT}(h:Zaf Z (notF f) σ H R):tNot (Zaf Z f) σ H R:=by
 obtain⟨F,δ,own,b,δ',s,e,k⟩:=h
 obtain⟨⟨c,δ1⟩,e1,e2⟩:=Option.bind_eq_some_iff.mp e
 cases e2
 exact⟨F,δ,own,c,δ1,s,e1,k⟩
@[simp] noncomputable def andV(f g:FE):FE:=fun δ=>(Zai f δ).bind fun p=>if p.1=true then g p.2 else some (.tmp (.fz (.bl false)),p.2)
@[simp] noncomputable def orV(f g:FE):FE:=fun δ=>(Zai f δ).bind fun p=>if p.1=true then some (.tmp (.fz (.bl true)),p.2)else g p.2
@[simp] noncomputable def notV(f:FE):FE:=fun δ=>(Zai f δ).bind fun p=>some (.tmp (.fz (.bl (!p.1))),p.2)
theorem Zwg{F:Hp}{own:Nat→Zk}{b:Bool}:Zmy Z F H σ own (.tmp (.fz (.bl b))) (.bl b):=⟨[],.fz (.bl b)⟩
theorem Zwh{f g:FE}(h:Zb Z (andV f g) σ H Q):Zvf (Zb Z f) (Zb Z g) σ H Q:=by
 obtain⟨F,δ,own,rv,δ',s,e,k⟩:=h
 obtain⟨⟨c,δ1⟩,e1,e2⟩:=Option.bind_eq_some_iff.mp e
 refine Zm3 ⟨F,δ,own,c,δ1,s,e1,fun H1 F1 own1 sH sF s1=>?_⟩
 cases c with
 |true=>
  rw[if_pos rfl]at e2⊢
  exact⟨F1,δ1,own1,rv,δ',s1,e2,fun v H2 F2 own2 a c d=>k v H2 F2 own2 (sH.trans a) (sF.trans c) d⟩
 |false=>
  rw[if_neg Bool.false_ne_true]at e2⊢
  cases e2
  exact k _ H1 F1 own1 sH sF s1 Zwg
@[simp] noncomputable def ifF(t:FT)(f g:FE):FE:=fun δ=>(t δ).bind fun p=>if p.1=true then f p.2 else g p.2
theorem l_if{t:FT}{f g:FE}(h:Zb Z (ifF t f g) σ H Q):tIf (Zaf Z t) (Zb Z f) (Zb Z g) σ H Q:=by
 obtain⟨F,δ,own,rv,δ',s,e,k⟩:=h
 obtain⟨⟨c,δ1⟩,e1,e2⟩:=Option.bind_eq_some_iff.mp e
 refine⟨F,δ,own,c,δ1,s,e1,fun H1 F1 own1 sH sF s1=>?_⟩
 cases c with
 |true=>
  rw[if_pos rfl]at e2⊢
  exact⟨F1,δ1,own1,rv,δ',s1,e2,fun v H2 F2 own2 a c d=>k v H2 F2 own2 (sH.trans a) (sF.trans c) d⟩
 |false=>
  rw[if_neg Bool.false_ne_true]at e2⊢
  exact⟨F1,δ1,own1,rv,δ',s1,e2,fun v H2 F2 own2 a c d=>k v H2 F2 own2 (sH.trans a) (sF.trans c) d⟩
@[simp] noncomputable def Zm4(g g':D→D→Option SV)(fa fb fc:FE):FE:=fun δ=>(fa δ).bind fun p=>(fb p.2).bind fun q=>(rdv p.1 q.2).bind fun x=>(rdv q.1 q.2).bind fun y=>(g x y).bind fun
 | .fz (.bl true)=>(fc q.2).bind fun r=>(rdv q.1 r.2).bind fun y'=>(rdv r.1 r.2).bind fun z=>(g' y' z).bind fun sv=>some (.tmp sv,r.2)
 | .fz (.bl false)=>some (.tmp (.fz (.bl false)),q.2)
 |_=>none
theorem Zs6{r r':R2}{g g':D→D→Option SV}{fa fb fc:FE}(hg:Z8 Z r g)(hg':Z8 Z r' g')(h:Zb Z (Zm4 g g' fa fb fc) σ H Q):Zrn r r' (Zb Z fa) (Zb Z fb) (Zb Z fc) σ H Q:=by
 obtain⟨F,δ,own,rv,δ',s,e,k⟩:=h
 obtain⟨⟨rv1,δ1⟩,e1,e⟩:=Option.bind_eq_some_iff.mp e
 obtain⟨⟨rv2,δ2⟩,e2,e⟩:=Option.bind_eq_some_iff.mp e
 obtain⟨x,e3,e⟩:=Option.bind_eq_some_iff.mp e
 obtain⟨y,e4,e⟩:=Option.bind_eq_some_iff.mp e
 obtain⟨sv,e5,e⟩:=Option.bind_eq_some_iff.mp e
 refine⟨F,δ,own,rv1,δ1,s,e1,fun v H1 F1 own1 sH1 sF1 s1 r1=>?_⟩
 obtain⟨F1',sF1',s1',r1'⟩:=s1.settleR r1
 refine⟨F1',δ1,own1,rv2,δ2,s1',e2,fun u H2 F2 own2 sH2 sF2 s2 r2=>?_⟩
 obtain⟨F3,sF3,s3,r3⟩:=s2.settleR r2
 refine hg F3 H2 σ δ2 own2 v u x y sv _ s3 (s3.rd (r1'.mono (sF2.trans sF3)) e3) (s3.rd r3 e4) e5 fun z H4 F4 ns sH4 sF4 s4 t4=>?_
 dsimp only at e
 split at e
 ·cases Zbq t4.sh
  refine⟨true,rfl,?_⟩
  rw[if_pos rfl]
  obtain⟨⟨rv5,δ5⟩,e6,e⟩:=Option.bind_eq_some_iff.mp e
  obtain⟨y',e7,e⟩:=Option.bind_eq_some_iff.mp e
  obtain⟨z',e8,e⟩:=Option.bind_eq_some_iff.mp e
  obtain⟨sv',e9,e⟩:=Option.bind_eq_some_iff.mp e
  cases e
  refine⟨F4,δ2,own2,rv5,δ5,s4,e6,fun w H5 F5 own5 sH5 sF5 s5 r5=>?_⟩
  obtain⟨F6,sF6,s6,r6⟩:=s5.settleR r5
  refine hg' F6 H5 σ δ5 own5 u w y' z' sv' _ s6 (s6.rd (r3.mono (sF4.trans (sF5.trans sF6))) e7) (s6.rd r6 e8) e9 fun q H7 F7 ns7 sH7 sF7 s7 t7=>?_
  exact k q H7 F7 own5 (sH1.trans (sH2.trans (sH4.trans (sH5.trans sH7)))) (sF1.trans (sF1'.trans (sF2.trans (sF3.trans (sF4.trans (sF5.trans (sF6.trans sF7))))))) s7 ⟨ns7,t7⟩
 ·cases Zbq t4.sh
  cases e
  refine⟨false,rfl,?_⟩
  rw[if_neg Bool.false_ne_true]
  exact k _ H4 F4 own2 (sH1.trans (sH2.trans sH4)) (sF1.trans (sF1'.trans (sF2.trans (sF3.trans sF4)))) s4 Zwg
 ·cases e
end
inductive Fl where
 |nx (δ:DSt)|bk (δ:DSt)|ct (δ:DSt)|rt (sv:SV)|ex (e:Exn) (δ:DSt)
noncomputable abbrev FS:=DSt→Option Fl
noncomputable def Zjw(Z:Ent K)(F:Hp)(D:Ends):Fl→Prop
 | .nx δ=>∀σ' H' F' own',Same F F'→SR Z F' H' σ' δ own'→D.nx σ' H'
 | .bk δ=>∀σ' H' F' own',Same F F'→SR Z F' H' σ' δ own'→D.bk σ' H'
 | .ct δ=>∀σ' H' F' own',Same F F'→SR Z F' H' σ' δ own'→D.ct σ' H'
 | .rt sv=>∀v H' F' ns,Same F F'→Same F' H'→(∀(b:Addr) (o:HO),F' b=some o→Z.f b=some o∨Z.h b=none)→Same Z.h H'→Shape K F' sv v ns→(adr ns).Nodup→
   (∀p∈ns,F' p.1=none∧Z.h p.1=none∧H' p.1=some p.2)→D.rt v H'
 | .ex x δ=>∀σ' H' F' own' cls od,Same F F'→SR Z F' H' σ' δ own'→Zju K F' x cls od→Z.x cls od σ' H'
theorem Zjw.mono{Z:Ent K}{F F':Hp}{D:Ends}(s:Same F F'):∀{fl:Fl},Zjw Z F D fl→Zjw Z F' D fl
 | .nx _,h=>fun σ' H' F2 own' a b=>h σ' H' F2 own' (s.trans a) b
 | .bk _,h=>fun σ' H' F2 own' a b=>h σ' H' F2 own' (s.trans a) b
 | .ct _,h=>fun σ' H' F2 own' a b=>h σ' H' F2 own' (s.trans a) b
 | .rt _,h=>fun v H' F2 ns a=>h v H' F2 ns (s.trans a)
 | .ex _ _,h=>fun σ' H' F2 own' cls od a=>h σ' H' F2 own' cls od (s.trans a)
noncomputable def Zy(Z:Ent K)(f:FS):TS:=fun D σ H=>∃F δ own fl,SR Z F H σ δ own∧f δ=some fl∧Zjw Z F D fl
section
variable{Z:Ent K}{H:Hp}{σ:St}{E:Ends}
@[simp] noncomputable def Zfq:FS:=fun δ=>some (.nx δ)
@[simp] noncomputable def Z18:FS:=fun δ=>some (.bk δ)
@[simp] noncomputable def Z3e:FS:=fun δ=>some (.ct δ)
theorem Zwi(h:Zy Z Zfq E σ H):Zid E σ H:=by
 obtain⟨F,δ,own,fl,s,e,k⟩:=h
 cases e
 exact k σ H F own (Same.refl F) s
@[simp] noncomputable def seqF(f g:FS):FS:=fun δ=>(f δ).bind fun
 | .nx δ'=>g δ'
 |fl=>some fl
theorem Zwj{f g:FS}(h:Zy Z (seqF f g) E σ H):tSeq (Zy Z f) (Zy Z g) E σ H:=by
 obtain⟨F,δ,own,fl,s,e,k⟩:=h
 obtain⟨f1,e1,e2⟩:=Option.bind_eq_some_iff.mp e
 refine⟨F,δ,own,f1,s,e1,?_⟩
 cases f1 with
 |nx δ1=>exact fun σ' H' F' own' sF s'=>⟨F',δ1,own',fl,s',e2,k.mono sF⟩
 |bk δ1=>cases e2;exact k
 |ct δ1=>cases e2;exact k
 |rt sv=>cases e2;exact k
 |ex x δ1=>cases e2;exact k
@[simp] noncomputable def ifS(t:FT)(f g:FS):FS:=fun δ=>(t δ).bind fun p=>if p.1=true then f p.2 else g p.2
theorem Zzv{t:FT}{f g:FS}(h:Zy Z (ifS t f g) E σ H):tIfS (Zaf Z t) (Zy Z f) (Zy Z g) E σ H:=by
 obtain⟨F,δ,own,fl,s,e,k⟩:=h
 obtain⟨⟨c,δ1⟩,e1,e2⟩:=Option.bind_eq_some_iff.mp e
 refine⟨F,δ,own,c,δ1,s,e1,fun H1 F1 own1 sH sF s1=>?_⟩
 cases c with
 |true=>rw[if_pos rfl]at e2⊢;exact⟨F1,δ1,own1,fl,s1,e2,k.mono sF⟩
 |false=>rw[if_neg Bool.false_ne_true]at e2⊢;exact⟨F1,δ1,own1,fl,s1,e2,k.mono sF⟩
@[simp] noncomputable def Z3f(fe:FE):FS:=fun δ=>(fe δ).bind fun p=>some (.nx p.2)
@[simp] noncomputable def outF:RV→DSt→Option SV
 | .tmp sv,_=>some sv
 | .bw i,δ=>δ[i]?.join
@[simp] noncomputable def retF(fe:FE):FS:=fun δ=>(fe δ).bind fun p=>(outF p.1 p.2).bind fun sv=>some (.rt sv)
theorem Zzw{fe:FE}(h:Zy Z (retF fe) E σ H):tRet (Zb Z fe) E σ H:=by
 obtain⟨F,δ,own,fl,s,e,k⟩:=h
 obtain⟨⟨rv,δ1⟩,e1,e2⟩:=Option.bind_eq_some_iff.mp e
 obtain⟨sv,e3,e4⟩:=Option.bind_eq_some_iff.mp e2
 cases e4
 refine⟨F,δ,own,rv,δ1,s,e1,fun v H1 F1 own1 sH sF s1 r1=>?_⟩
 cases rv with
 |tmp sw=>
  cases e3
  obtain⟨ns,t⟩:=r1
  exact k v H1 F1 ns sF s1.le s1.fro s1.old t.sh t.nd t.ok
 |bw i=>
  obtain⟨w,h1,h2⟩:=s1.at' i sv (Zbz e3)
  have r1':σ[i]? =some (some v):=r1
  rw[r1']at h1;cases h1
  exact k v H1 F1 (own1 i) sF s1.le s1.fro s1.old h2 (s1.nod i) (s1.ok i)
@[simp] noncomputable def retN:FS:=fun δ=>some (.rt (.fz .non))
@[simp] noncomputable def stow(i:Nat):RV→DSt→Option DSt
 | .tmp sv,δ=>if i<δ.length then some (δ.set i (some sv))else none
 | .bw j,δ=>(frz (.bw j) δ).bind fun p=>if i<p.2.length then some (p.2.set i (some (.fz p.1)))else none
theorem SR.stow{F:Hp}{δ δ':DSt}{own:Nat→Zk}{i:Nat}{rv:RV}{v:V}(s:SR Z F H σ δ own)(r:Zmy Z F H σ own rv v)(e:DL.stow i rv δ=some δ'):∃F' own',Same F F'∧SR Z F' H (σ.set i (some v)) δ' own':=by
 cases rv with
 |tmp sv=>
  obtain⟨ns,t⟩:=r
  have e:(if i<δ.length then some (δ.set i (some sv))else none)=some δ':=e
  by_cases hi:i<δ.length
  ·rw[if_pos hi]at e;cases e
   exact⟨F,_,Same.refl F,s.store t (by rw[s.len];exact hi)⟩
  ·rw[if_neg hi]at e;cases e
 |bw j=>
  obtain⟨⟨d,δ1⟩,e1,e2⟩:=Option.bind_eq_some_iff.mp e
  obtain⟨F1,own1,sF,s1,r1⟩:=s.frzR (rv:=.bw j) (v:=v) r e1
  by_cases hi:i<δ1.length
  ·rw[if_pos hi]at e2;cases e2
   exact⟨F1,_,sF,s1.store (.fz r1) (by rw[s1.len];exact hi)⟩
  ·rw[if_neg hi]at e2;cases e2
@[simp] noncomputable def setF(i:Nat)(fe:FE):FS:=fun δ=>(fe δ).bind fun p=>(stow i p.1 p.2).bind fun δ'=>some (.nx δ')
theorem Zzx{i:Nat}{fe:FE}(h:Zy Z (setF i fe) E σ H):tAsg (Zb Z fe) (Zdx i) E σ H:=by
 obtain⟨F,δ,own,fl,s,e,k⟩:=h
 obtain⟨⟨rv,δ1⟩,e1,e2⟩:=Option.bind_eq_some_iff.mp e
 obtain⟨δ2,e3,e4⟩:=Option.bind_eq_some_iff.mp e2
 cases e4
 refine⟨F,δ,own,rv,δ1,s,e1,fun v H1 F1 own1 sH sF s1 r1=>?_⟩
 obtain⟨F2,own2,sF2,s2⟩:=s1.stow r1 e3
 exact k _ H1 F2 own2 (sF.trans sF2) s2
set_option genInjectivity false in
structure FG where
 run:D→DSt→Option DSt
 tch:List Nat
set_option genInjectivity false in
structure FGs where
 run:List D→DSt→Option DSt
 tch:List Nat
noncomputable def Ze2(Z:Ent K)(g:FG):TG:=fun v σ H Q=>∃F δ own d δ',SR Z F H σ δ own∧Rep K F d v∧g.run d δ=some δ'∧∀σ' own',SR Z F H σ' δ' own'→(∀j:Nat,j∉g.tch→σ'[j]? =σ[j]?)→Q σ' H
noncomputable def Zdk(Z:Ent K)(g:FGs):TGs:=fun vs σ H Q=>∃F δ own ds δ',SR Z F H σ δ own∧Reps K F ds vs∧g.run ds δ=some δ'∧∀σ' own',SR Z F H σ' δ' own'→(∀j:Nat,j∉g.tch→σ'[j]? =σ[j]?)→Q σ' H
noncomputable def Zq(i:Nat):FG:=⟨fun d δ=>if i<δ.length then some (δ.set i (some (.fz d)))else none,[i]⟩
theorem Zs7{i:Nat}{v:V}{Q:St→Hp→Prop}(h:Ze2 Z (Zq i) v σ H Q):Zdx i v σ H Q:=by
 obtain⟨F,δ,own,d,δ',s,r,e,k⟩:=h
 have e:(if i<δ.length then some (δ.set i (some (.fz d)))else none)=some δ':=e
 by_cases hi:i<δ.length
 ·rw[if_pos hi]at e;cases e
  exact k _ _ (s.store (.fz r) (by rw[s.len];exact hi)) fun j hj=>List.getElem?_set_ne fun z=>hj (by rw[z];exact List.mem_cons_self)
 ·rw[if_neg hi]at e;cases e
noncomputable def Zd5:FGs:=⟨fun ds δ=>match ds with
 | []=>some δ
 |_=>none,[]⟩
noncomputable def Zao(g:FG)(r:FGs):FGs:=⟨fun ds δ=>match ds with
 |d::t=>(g.run d δ).bind fun δ1=>r.run t δ1
 | []=>none,g.tch++r.tch⟩
@[simp] theorem Zwk(i:Nat)(d:D)(δ:DSt):(Zq i).run d δ=if i<δ.length then some (δ.set i (some (.fz d)))else none:=rfl
@[simp] theorem Zyx(δ:DSt):Zd5.run [] δ=some δ:=rfl
@[simp] theorem Zwl(g:FG)(r:FGs)(d:D)(t:List D)(δ:DSt):(Zao g r).run (d::t) δ=(g.run d δ).bind fun δ1=>r.run t δ1:=rfl
theorem Zwm{vs:List V}{Q:St→Hp→Prop}(h:Zdk Z Zd5 vs σ H Q):gNil vs σ H Q:=by
 obtain⟨F,δ,own,ds,δ',s,r,e,k⟩:=h
 cases r with
 |nil=>cases e;exact⟨rfl,k σ own s fun _ _=>rfl⟩
 |cons h t=>cases e
theorem Zs8{g:FG}{r:FGs}{vs:List V}{Q:St→Hp→Prop}(h:Zdk Z (Zao g r) vs σ H Q):Zvk (Ze2 Z g) (Zdk Z r) vs σ H Q:=by
 obtain⟨F,δ,own,ds,δ',s,rr,e,k⟩:=h
 cases rr with
 |nil=>cases e
 |cons h t=>
  obtain⟨δ1,e1,e2⟩:=Option.bind_eq_some_iff.mp e
  exact⟨_,_,rfl,F,δ,own,_,δ1,s,h,e1,fun σ1 own1 s1 t1=>⟨F,δ1,own1,_,δ',s1,t,e2,fun σ2 own2 s2 t2=>k σ2 own2 s2 fun j hj=>(t2 j fun z=>hj (List.mem_append_right _ z)).trans (t1 j fun z=>hj (List.mem_append_left _ z))⟩⟩
noncomputable def Zdm(n:Nat)(g:FGs):FG:=⟨fun d δ=>match d with
 | .tup xs=>if xs.length=n then g.run xs δ else none
 |_=>none,g.tch⟩
@[simp] theorem Zyy(n:Nat)(g:FGs)(xs:List D)(δ:DSt):(Zdm n g).run (.tup xs) δ=if xs.length=n then g.run xs δ else none:=rfl
theorem Zwn{n:Nat}{g:FGs}{v:V}{Q:St→Hp→Prop}(h:Ze2 Z (Zdm n g) v σ H Q):gTup K n (Zdk Z g) v σ H Q:=by
 obtain⟨F,δ,own,d,δ',s,r,e,k⟩:=h
 dsimp only[Zdm]at e
 split at e
 ·rename_i xs
  by_cases hn:xs.length=n
  ·rw[if_pos hn]at e
   cases r with
   |tup h r=>exact⟨_,_,rfl,Zat s.le (Zd4 h),by rw[←r.length];exact hn,F,δ,own,_,δ',s,r,e,k⟩
  ·rw[if_neg hn]at e;cases e
 ·cases e
@[simp] noncomputable def Zzy(g:FG)(fe:FE):FS:=fun δ=>(fe δ).bind fun p=>(frz p.1 p.2).bind fun q=>(g.run q.1 q.2).bind fun δ'=>some (.nx δ')
@[simp] noncomputable def forD(tg:FG)(body:FS):List D→DSt→Option Fl
 | [],δ=>some (.nx δ)
 |d::ds,δ=>(tg.run d δ).bind fun δ1=>(body δ1).bind fun
  | .nx δ2=>forD tg body ds δ2
  | .ct δ2=>forD tg body ds δ2
  | .bk δ2=>some (.nx δ2)
  | .rt sv=>some (.rt sv)
  | .ex x δ2=>some (.ex x δ2)
noncomputable def Zch(K:PySem.W.Frag)(J:It)(F:Hp)(ds:List D):Prop:=∀F' H,Same F F'→Same F' H→∀i:Nat,
 (∀d,ds[i]? =some d→J.go i H∧∀x H',J.yld i H x H'→Same H H'∧∃ns,(adr ns).Nodup∧(∀p∈ns,H p.1=none∧H' p.1=some p.2)∧Rep K (addL F' ns) d x)∧(ds.length≤i→J.stop i H)
noncomputable def Zbr(Z:Ent K)(f:FD):TI:=fun σ H R=>∃F δ own ds δ',SR Z F H σ δ own∧f δ=some (ds,δ')∧
 ∀J H' F' own',Same H H'→Same F F'→SR Z F' H' σ δ' own'→Zch K J F' ds→R J H'
@[simp] noncomputable def forF(fi:FD)(tg:FG)(body:FS):FS:=fun δ=>(fi δ).bind fun p=>forD tg body p.1 p.2
theorem SR.fresh{F H':Hp}{δ:DSt}{own:Nat→Zk}{ns:Zk}(s:SR Z F H σ δ own)(sm:Same H H')(nd:(adr ns).Nodup)(h:∀p∈ns,H p.1=none∧H' p.1=some p.2):Same F (addL F ns)∧SR Z (addL F ns) H' σ δ own:=by
 refine⟨Zan fun p hp=>s.le.free (h p hp).1,(s.grow sm).addF nd (fun p hp=>s.le.free (h p hp).1) (fun p hp=>(h p hp).2) (fun p hp=>s.old.free (h p hp).1) fun i p q hp hq e=>?_⟩
 have z:=(s.ok i q hq).2.2
 rw[←e,(h p hp).1]at z;cases z
theorem Zzz{fi:FD}{tg:FG}{body:FS}(h:Zy Z (forF fi tg body) E σ H):tFor (Zbr Z fi) (Ze2 Z tg) (Zy Z body) E σ H:=by
 obtain⟨F,δ,own,fl,s,e,k⟩:=h
 obtain⟨⟨ds,δ1⟩,e1,e2⟩:=Option.bind_eq_some_iff.mp e
 refine⟨F,δ,own,ds,δ1,s,e1,fun J H1 F1 own1 sH sF s1 yl=>?_⟩
 refine⟨fun i m σ H=>m=ds.length- i∧i≤ds.length∧∃F δ own,Same F1 F∧SR Z F H σ δ own∧forD tg body (ds.drop i) δ=some fl,⟨ds.length,by simp,Nat.zero_le _,F1,δ1,own1,Same.refl F1,s1,e2⟩,?_⟩
 rintro i m σ' H' ⟨rfl,hi,F2,δ2,own2,sF2,s2,ef⟩
 by_cases hlt:i<ds.length
 ·have hd:ds[i]? =some ds[i]:=by simp[hlt]
  obtain⟨go,yy⟩:=(yl F2 H' sF2 s2.le i).1 _ hd
  rw[List.drop_eq_getElem_cons hlt]at ef
  obtain⟨δ3,e3,e4⟩:=Option.bind_eq_some_iff.mp ef
  obtain⟨f1,e5,e6⟩:=Option.bind_eq_some_iff.mp e4
  refine .inr ⟨go,fun σ4 H4=>∃F δ own,Same F1 F∧SR Z F H4 σ4 δ own∧forD tg body (ds.drop (i+1)) δ=some fl,fun σ4 H4 ⟨F4,δ4,own4,a,b,c⟩=>⟨ds.length- (i+1),by omega,rfl,hlt,F4,δ4,own4,a,b,c⟩,fun x H3 hy=>?_⟩
  obtain⟨sm,ns,nd,hn,rp⟩:=yy x H3 hy
  obtain⟨sFn,sn⟩:=s2.fresh sm nd hn
  refine⟨addL F2 ns,δ2,own2,_,δ3,sn,rp,e3,fun σ5 own5 s5 _=>⟨addL F2 ns,δ3,own5,f1,s5,e5,?_⟩⟩
  cases f1 with
  |nx δ6=>exact fun σ6 H6 F6 own6 a b=>⟨F6,δ6,own6,sF2.trans (sFn.trans a),b,e6⟩
  |ct δ6=>exact fun σ6 H6 F6 own6 a b=>⟨F6,δ6,own6,sF2.trans (sFn.trans a),b,e6⟩
  |bk δ6=>
   cases e6
   exact fun σ6 H6 F6 own6 a b=>k σ6 H6 F6 own6 (sF.trans (sF2.trans (sFn.trans a))) b
  |rt sv=>
   cases e6
   exact fun v H6 F6 ns6 a=>k v H6 F6 ns6 (sF.trans (sF2.trans (sFn.trans a)))
  |ex x δ6=>
   cases e6
   exact fun σ6 H6 F6 own6 cls od a=>k σ6 H6 F6 own6 cls od (sF.trans (sF2.trans (sFn.trans a)))
 ·have hz:i=ds.length:=by omega
  subst hz
  rw[List.drop_length]at ef
  cases ef
  exact .inl ⟨(yl F2 H' sF2 s2.le _).2 (Nat.le_refl _),k σ' H' F2 own2 (sF.trans sF2) s2⟩
noncomputable def Zrv(t:FT)(body:FS):Nat→DSt→Option Fl
 |0,_=>none
 |n+1,δ=>(t δ).bind fun p=>if p.1=true then(body p.2).bind (fun
  | .nx δ2=>Zrv t body n δ2
  | .ct δ2=>Zrv t body n δ2
  | .bk δ2=>some (.nx δ2)
  | .rt sv=>some (.rt sv)
  | .ex x δ2=>some (.ex x δ2))else some (.nx p.2)
@[simp] noncomputable def seqI(fe:FE):FD:=fun δ=>(fe δ).bind fun p=>(frz p.1 p.2).bind fun q=>match q.1 with
 | .lst xs=>some (xs,q.2)
 | .tup xs=>some (xs,q.2)
 |_=>none
noncomputable def iSeq(K:PySem.W.Frag)(tl:TE):TI:=fun σ H R=>tl σ H fun x H1=>(∃a,x= .ref a∧(∃xs,SqL K H1 a xs)∧R (Itl K a) H1)∨(∃a,x= .ref a∧(∃xs,SqT K H1 a xs)∧R (Itt K a) H1)
theorem Ziq{F:Hp}{a:Addr}{xs:List D}{vs:List V}(h:SqL K F a vs)(r:Reps K F xs vs):Zch K (Itl K a) F xs:=fun F' H sF sH i=>by
 have q:SqL K H a vs:=Zah (sF.trans sH) h
 refine⟨fun d hd=>?_,fun hl=>⟨vs,q,by rw[←r.length];exact hl⟩⟩
 obtain⟨v,h1,h2⟩:=r.get hd
 refine⟨⟨vs,v,q,h1⟩,fun x H' zq9=>?_⟩
 obtain⟨e1,e2⟩:=zq9
 subst e1
 have e3:=e2 vs q
 rw[h1]at e3;cases e3
 exact⟨Same.refl _,[],List.nodup_nil,fun _ h=>(nomatch h),h2.mono sF⟩
theorem Zld{F:Hp}{a:Addr}{xs:List D}{vs:List V}(h:SqT K F a vs)(r:Reps K F xs vs):Zch K (Itt K a) F xs:=fun F' H sF sH i=>by
 have q:SqT K H a vs:=Zat (sF.trans sH) h
 refine⟨fun d hd=>?_,fun hl=>⟨vs,q,by rw[←r.length];exact hl⟩⟩
 obtain⟨v,h1,h2⟩:=r.get hd
 refine⟨⟨vs,v,q,h1⟩,fun x H' zq9=>?_⟩
 obtain⟨e1,e2⟩:=zq9
 subst e1
 have e3:=e2 vs q
 rw[h1]at e3;cases e3
 exact⟨Same.refl _,[],List.nodup_nil,fun _ h=>(nomatch h),h2.mono sF⟩
noncomputable def Zir(lo:Int)(n:Nat):List D:=(List.range n).map fun i=>.int (lo+(i:Nat))
theorem Zg2{lo:Int}{n:Nat}{F:Hp}:Zch K (Itr lo n) F (Zir lo n):=fun F' H sF sH i=>by
 have hl:(Zir lo n).length=n:=by unfold Zir;rw[List.length_map,List.length_range]
 refine⟨fun d hd=>?_,fun h=>by rw[hl]at h;exact h⟩
 have hi:i<n:=by
  have:=(List.getElem?_eq_some_iff.mp hd).1
  rw[hl]at this;exact this
 refine⟨hi,fun x H' zq9=>?_⟩
 obtain⟨e1,e2⟩:=zq9
 subst e1 e2
 unfold Zir at hd
 rw[List.getElem?_map,List.getElem?_range hi]at hd
 cases hd
 exact⟨Same.refl _,[],List.nodup_nil,fun _ h=>(nomatch h),.int _⟩
noncomputable def rngP(j:Int):Prop:=-(2^62)≤j∧j<2^62
theorem Zs9{j:Int}(h0:0≤j)(h:j≤16777216):rngP j:=⟨by omega,by omega⟩
theorem Zdo{n:Nat}(h:n≤16777216):rngP (n:Int):=Zs9 (by omega) (by omega)
open Classical in
@[simp] noncomputable def rngI(fa:FA):FD:=fun δ=>(fa δ).bind fun p=>match Zcl p.1 p.2 with
 |some [.int j]=>if rngP j then some (Zir 0 j.toNat,p.2)else none
 |_=>none
theorem Zwo{fa:FA}{R:It→Hp→Prop}(h:Zbr Z (rngI fa) σ H R):Zvm (Zc8 Z fa) σ H R:=by
 obtain⟨F,δ,own,ds,δ',s,e,k⟩:=h
 obtain⟨⟨rvs,δ1⟩,e1,e2⟩:=Option.bind_eq_some_iff.mp e
 refine⟨F,δ,own,rvs,δ1,s,e1,fun vs H1 F1 own1 sH sF s1 r1=>?_⟩
 dsimp only at e2
 split at e2
 ·rename_i j hj
  have rn:=s1.rdAll r1 hj
  cases rn with
  |cons h t=>
   cases t
   by_cases hb:rngP j
   ·rw[if_pos hb]at e2
    cases e2
    exact⟨j,by rw[h.int],hb.1,hb.2,k _ H1 F1 own1 sH sF s1 Zg2⟩
   ·rw[if_neg hb]at e2;cases e2
 ·cases e2
@[simp] noncomputable def appF(i:Nat)(fe:FE):FS:=fun δ=>match δ[i]? with
 |some (some (.ol _))=>(fe δ).bind fun p=>(frz p.1 p.2).bind fun q=>match q.2[i]? with
  |some (some (.ol xs))=>if xs.length<PySem.sizeLine then some (.nx (q.2.set i (some (.ol (xs++[q.1])))))else none
  |_=>none
 |_=>none
theorem Za0{F:Hp}{xs:List D}{v:V}{ns:Zk}(h:Shape K F (.ol xs) v ns):∃a vs,v= .ref a∧ns=[(a,.lst vs)]∧Reps K F xs vs:=by
 cases h with
 |ol r=>exact⟨_,_,rfl,rfl,r⟩
theorem Zz0{i:Nat}{fe:FE}(h:Zy Z (appF i fe) E σ H):Zpm (tBM K "list" Zc5 (tVar i) (Zk9 (Zb Z fe) tNil)) E σ H:=by
 obtain⟨F,δ,own,fl,s,e,k⟩:=h
 unfold appF at e
 split at e
 ·rename_i xs0 hx0
  obtain⟨⟨rv,δ1⟩,e1,e2⟩:=Option.bind_eq_some_iff.mp e
  obtain⟨⟨d,δ2⟩,e3,e4⟩:=Option.bind_eq_some_iff.mp e2
  obtain⟨v,hv,sh⟩:=s.at' i _ hx0
  obtain⟨a,vs0,ev,en,r0⟩:=Za0 sh
  refine⟨v,hv,?_,F,δ,own,rv,δ1,s,e1,fun y H1 F1 own1 sH sF s1 r1=>?_⟩
  ·subst ev
   exact .inl ⟨rfl,vs0,.inl (.inl (s.ok i (a,.lst vs0) (by rw[en];exact List.mem_cons_self)).2.2)⟩
  obtain⟨F2,sF2,s2,r2⟩:=s1.settleR r1
  obtain⟨F3,own3,sF3,s3,r3⟩:=s2.frzR r2 e3
  dsimp only at e4
  split at e4
  ·rename_i xs hx
   by_cases hz:xs.length<PySem.sizeLine
   ·rw[if_pos hz]at e4
    cases e4
    obtain⟨v',hv',sh'⟩:=s3.at' i _ hx
    rw[hv]at hv';cases hv'
    obtain⟨b,vs,eb,en',r'⟩:=Za0 sh'
    have mb:(b,HO.lst vs)∈own3 i:=by rw[en'];exact List.mem_cons_self
    subst eb
    refine⟨b,vs,y,rfl,rfl,(s3.ok i _ mb).2.2,by rw[←r'.length];exact hz,?_⟩
    exact k σ _ F3 _ (sF.trans (sF2.trans sF3)) (s3.change (sv':=.ol (xs++[d])) (o':=.lst (vs++[y])) (ns':=[(b,.lst (vs++[y]))]) hx hv mb (.ol (r'.snoc r3)) (fun p hp=>.inl (List.mem_singleton.mp hp)) nd1)
   ·rw[if_neg hz]at e4;cases e4
  ·cases e4
 ·cases e
end
@[simp] noncomputable def Zdl(n:Nat)(ds:List D):DSt:=ds.map (fun d=>some (.fz d))++List.replicate (n- ds.length) none
theorem Zfr{N:List Str}{F H:Hp}{ds:List D}{vs:List V}(le:Same F H)(r:Reps K F ds vs):SR (ent H F:Ent K) F H (L2.start N vs) (Zdl N.length ds) fun _=>[]:=by
 have hl:=r.length
 refine⟨le,fun b o e=>.inl e,Same.refl H,?_,fun i sv e=>?_,fun _=>List.nodup_nil,fun _ _ h=>(nomatch h),fun _ _ _ _ _ h=>(nomatch h)⟩
 ·unfold L2.start Zdl
  rw[List.length_append,List.length_append,List.length_map,List.length_map,List.length_replicate,List.length_replicate,hl]
 ·unfold Zdl at e
  by_cases hi:i<ds.length
  ·rw[List.getElem?_append_left (by simpa using hi),List.getElem?_map]at e
   cases hd:ds[i]? with
   |none=>rw[hd]at e;cases e
   |some d=>
    rw[hd]at e;cases e
    obtain⟨v,h1,h2⟩:=r.get hd
    refine⟨v,?_,.fz h2⟩
    unfold L2.start
    rw[List.getElem?_append_left (by rw[List.length_map];omega),List.getElem?_map,h1]
    rfl
  ·rw[List.getElem?_append_right (by simpa using hi),List.getElem?_replicate]at e
   split at e<;> cases e
theorem Zp0{n:Nat}{g:List D→Option SV}{vs:List V}{H:Hp}{Q:VK}{E:XK}(h:spOf K n g vs H Q E):vs.length=n:=by
 obtain⟨F,ds,sv,le,r,hn,e,k⟩:=h
 rw[←r.length];exact hn
end DL
namespace DL
open PySem L2
variable{K:PySem.W.Frag}
noncomputable def xG(K:PySem.W.Frag)(g:FG):TG:=fun v σ H Q=>∃Z:Ent K,Ze2 Z g v σ H Q
noncomputable def xT(K:PySem.W.Frag)(f:FT):TT:=fun σ H Q=>∃Z:Ent K,Zaf Z f σ H Q
noncomputable def xE(K:PySem.W.Frag)(f:FE):TE:=fun σ H Q=>∃Z:Ent K,Zb Z f σ H Q
noncomputable def Zp1:FT:=fun δ=>some (true,δ)
@[simp] theorem Zyz(δ:DSt):Zp1 δ=some (true,δ):=rfl
@[simp] noncomputable def caps(src:List BSrc):List RV:=src.filterMap fun
 | .cap j=>some (.bw j)
 |_=>none
@[simp] noncomputable def Zm5(δ:DSt):BSrc→Option SV
 | .own=>none
 | .cap j=>match δ[j]?.join with
  |some (.fz d)=>some (.fz d)
  |_=>none
 | .acc=>some (.ol [])
@[simp] noncomputable def bD(src:List BSrc)(δ:DSt):DSt:=src.map (Zm5 δ)
@[simp] noncomputable def Zd6:BSrc→Option SV→Option SV
 | .own,_=>none
 |_,o=>o
@[simp] noncomputable def Zdb:List BSrc→DSt→DSt
 |b::r,o::t=>Zd6 b o::Zdb r t
 |_,t=>t
@[simp] noncomputable def Zm6(src:List BSrc)(k:Nat)(g:FG)(tt:FT)(te:FE):List D→DSt→Option DSt
 | [],δ=>some δ
 |d::ds,δ=>(g.run d δ).bind fun δ1=>(tt δ1).bind fun p=>if p.1=true then(te p.2).bind fun q=>(frz q.1 q.2).bind fun r=>match r.2[k]? with
   |some (some (.ol zs))=>if zs.length<PySem.sizeLine then Zm6 src k g tt te ds (Zdb src (r.2.set k (some (.ol (zs++[r.1])))))else none
   |_=>none
  else Zm6 src k g tt te ds (Zdb src p.2)
@[simp] noncomputable def Zta(src:List BSrc)(k:Nat)(fi:FD)(g:FG)(tt:FT)(te:FE):FE:=fun δ=>(fi δ).bind fun p=>(frzAll (caps src) p.2).bind fun c=>(Zm6 src k g tt te p.1 (bD src c.2)).bind fun δb=>match δb[k]? with
 |some (some (.ol ys))=>some (.tmp (.ol ys),c.2)
 |_=>none
theorem Zd7:∀(src:List BSrc) (δ:DSt),(Zdb src δ).length=δ.length
 | [],t=>by unfold Zdb;rfl
 |_::_,[]=>by unfold Zdb;rfl
 |b::r,o::t=>by show(Zd6 b o::Zdb r t).length=_;rw[List.length_cons,List.length_cons,Zd7 r t]
theorem Zd8:∀{src:List BSrc} {δ:DSt} {i:Nat} {sv:SV},(Zdb src δ)[i]? =some (some sv)→δ[i]? =some (some sv)
 | [],_,_,_,h=>h
 |_::_,[],_,_,h=>h
 |b::r,o::t,0,sv,h=>by
  have h:some (Zd6 b o)=some (some sv):=h
  cases b with
  |own=>cases h
  |cap j=>exact h
  |acc=>exact h
 |b::r,o::t,i+1,sv,h=>by
  have h:(Zdb r t)[i]? =some (some sv):=h
  show t[i]? =_
  exact Zd8 h
section
variable{Z:Ent K}{F H:Hp}{σ:St}{δ δ':DSt}{own:Nat→Zk}
theorem SR.forget(s:SR Z F H σ δ own)(hl:δ'.length=δ.length)(h:∀(i:Nat) (sv:SV),δ'[i]? =some (some sv)→δ[i]? =some (some sv)):SR Z F H σ δ' own:=
 ⟨s.le,s.fro,s.old,s.len.trans hl.symm,fun i sv e=>s.at' i sv (h i sv e),s.nod,s.ok,s.sep⟩
theorem SR.caps:∀{rvs:List RV} {ds:List D} {δ δ':DSt} {F:Hp} {own:Nat→Zk},(∀rv∈rvs,∃j,rv= .bw j)→SR Z F H σ δ own→DL.frzAll rvs δ=some (ds,δ')→∃F1 own1,Same F F1∧SR Z F1 H σ δ' own1
 | [],_,_,_,F,own,_,s,e=>by cases e;exact⟨F,own,Same.refl F,s⟩
 |rv::r,_,_,_,F,own,hb,s,e=>by
  obtain⟨⟨d,δ1⟩,e1,e2⟩:=Option.bind_eq_some_iff.mp e
  obtain⟨⟨ds,δ2⟩,e3,e4⟩:=Option.bind_eq_some_iff.mp e2
  cases e4
  obtain⟨j,rfl⟩:=hb rv List.mem_cons_self
  obtain⟨sv,e5,e6⟩:=Option.bind_eq_some_iff.mp e1
  cases e6
  obtain⟨F1,v,sF,_,_,s1⟩:=s.freeze (Zbz e5)
  obtain⟨F2,own2,sF2,s2⟩:=SR.caps (fun rv h=>hb rv (List.mem_cons_of_mem _ h)) s1 e3
  exact⟨F2,own2,sF.trans sF2,s2⟩
theorem SR.after{F3 H3:Hp}(s2:SR Z F H σ δ own)(sH3:Same H H3)(sF3:Same F F3)(le3:Same F3 H3)(fro3:∀(b:Addr) (o:HO),F3 b=some o→F b=some o∨H b=none):SR Z F3 H3 σ δ own:=by
 refine⟨le3,fun b o e=>?_,s2.old.trans sH3,s2.len,fun i sw ei=>?_,s2.nod,fun i p hp=>?_,s2.sep⟩
 ·rcases fro3 b o e with z|z
  ·exact s2.fro b o z
  ·exact .inr (s2.old.free z)
 ·obtain⟨w,h1,h2⟩:=s2.at' i sw ei
  exact⟨w,h1,h2.mono sF3⟩
 ·obtain⟨a,b,c⟩:=s2.ok i p hp
  refine⟨?_,b,sH3 _ _ c⟩
  cases z:F3 p.1 with
  |none=>rfl
  |some u=>
   rcases fro3 _ u z with y|y
   ·rw[a]at y;cases y
   ·rw[c]at y;cases y
end
structure SrcOk(src:List BSrc)(k:Nat):Prop where
 acc:src[k]? =some .acc
 uni:∀i:Nat,src[i]? =some .acc→i=k
theorem Zp2{Z:Ent K}{F H:Hp}{σ:St}{δ:DSt}{own:Nat→Zk}{src:List BSrc}{k:Nat}{acc:Addr}(S:SrcOk src k)(s:SR Z F H σ δ own)(ha:H acc=none):
  SR (ent H F:Ent K) F (upd H acc (.lst [])) (bSt src σ acc) (bD src δ) (fun i=>if i=k then[(acc,.lst [])]else[]):=by
 have mem:∀{i:Nat} {p:Addr×HO},p∈(if i=k then[(acc,HO.lst [])]else[])→i=k∧p=(acc,.lst []):=fun{i p} h=>by
  by_cases hi:i=k
  ·rw[if_pos hi]at h;exact⟨hi,List.mem_singleton.mp h⟩
  ·rw[if_neg hi]at h;exact nomatch h
 refine⟨s.le.trans (Zbp ha),fun b o e=>.inl e,Zbp ha,by unfold bSt bD;rw[List.length_map,List.length_map],fun i sv e=>?_,fun i=>?_,fun i p hp=>?_,fun i j p q hij hp hq=>?_⟩
 ·unfold bD at e
  rw[List.getElem?_map]at e
  cases hq:src[i]? with
  |none=>rw[hq]at e;cases e
  |some q=>
   rw[hq]at e
   have e:Zm5 δ q=some sv:=Option.some.inj e
   cases q with
   |own=>cases e
   |acc=>
    cases e
    have hi:=S.uni i hq
    refine⟨.ref acc,by unfold bSt;rw[List.getElem?_map,hq];rfl,?_⟩
    show Shape K F (.ol []) (.ref acc) (if i=k then[(acc,.lst [])]else[])
    rw[if_pos hi]
    exact .ol .nil
   |cap j=>
    have hi:i≠k:=fun z=>by rw[z,S.acc]at hq;cases hq
    unfold Zm5 at e
    dsimp only at e
    split at e
    ·rename_i d hd
     cases e
     obtain⟨v,h1,h2⟩:=s.at' j _ (Zbz hd)
     refine⟨v,by unfold bSt;rw[List.getElem?_map,hq];show some (σ[j]?).join=_;rw[h1];rfl,?_⟩
     show Shape K F (.fz d) v (if i=k then[(acc,.lst [])]else[])
     rw[if_neg hi]
     exact .fz (Zbq h2)
    ·cases e
 ·show(adr (if i=k then[(acc,HO.lst [])]else[])).Nodup
  by_cases hi:i=k
  ·rw[if_pos hi];exact nd1
  ·rw[if_neg hi];exact List.nodup_nil
 ·obtain⟨_,rfl⟩:=mem hp
  exact⟨s.le.free ha,ha,Z3⟩
 ·obtain⟨z,_⟩:=mem hp
  obtain⟨y,_⟩:=mem hq
  exact absurd (z.trans y.symm) hij
theorem Zwp{Z:Ent K}{H:Hp}{σ:St}{Q:VK}{src:List BSrc}{k:Nat}{fi:FD}{g:FG}{tt:FT}{te:FE}(S:SrcOk src k)(hk:k∉g.tch)(h:Zb Z (Zta src k fi g tt te) σ H Q):
  Zwc src (Zbr Z fi) (xG K g) (xT K tt) (xE K te) σ H Q:=by
 obtain⟨F,δ,own,rv,δ',s,e,k0⟩:=h
 obtain⟨⟨ds,δ1⟩,e1,e2⟩:=Option.bind_eq_some_iff.mp e
 obtain⟨⟨cs,δ2⟩,e3,e4⟩:=Option.bind_eq_some_iff.mp e2
 obtain⟨δf,e5,e6⟩:=Option.bind_eq_some_iff.mp e4
 refine⟨F,δ,own,ds,δ1,s,e1,fun J H1 F1 own1 sH sF s1 yl acc ha=>?_⟩
 obtain⟨F2,own2,sF2,s2⟩:=s1.caps (fun rv hr=>by
  unfold DL.caps at hr
  obtain⟨b,_,hb⟩:=List.mem_filterMap.mp hr
  cases b with
  |own=>cases hb
  |acc=>cases hb
  |cap j=>cases hb;exact⟨j,rfl⟩) e3
 have s3:=Zp2 S s2 ha
 have hacc0:(bSt src σ acc)[k]? =some (some (.ref acc)):=by unfold bSt;rw[List.getElem?_map,S.acc];rfl
 refine⟨fun i m σ' H=>m=ds.length- i∧i≤ds.length∧σ'[k]? =some (some (.ref acc))∧∃F δ own,Same F2 F∧SR (ent H1 F2:Ent K) F H σ' δ own∧Zm6 src k g tt te (ds.drop i) δ=some δf,
  ⟨ds.length,by simp,Nat.zero_le _,hacc0,F2,_,_,Same.refl F2,s3,e5⟩,?_⟩
 rintro i m σ4 H4 ⟨rfl,hi,hacc,F4,δ4,own4,sF4,s4,ef⟩
 by_cases hlt:i<ds.length
 ·have hd:ds[i]? =some ds[i]:=by simp[hlt]
  obtain⟨go,yy⟩:=(yl F4 H4 (sF2.trans sF4) s4.le i).1 _ hd
  rw[List.drop_eq_getElem_cons hlt]at ef
  obtain⟨δ5,e7,e8⟩:=Option.bind_eq_some_iff.mp ef
  obtain⟨⟨b,δ6⟩,e9,e10⟩:=Option.bind_eq_some_iff.mp e8
  refine .inr ⟨go,fun x H5 hy=>?_⟩
  obtain⟨sm,ns,nd,hn,rp⟩:=yy x H5 hy
  obtain⟨sFn,sn⟩:=s4.fresh sm nd hn
  refine⟨(ent H1 F2:Ent K),addL F4 ns,δ4,own4,_,δ5,sn,rp,e7,fun σ6 own6 s6 t6=>⟨(ent H1 F2:Ent K),addL F4 ns,δ5,own6,b,δ6,s6,e9,fun H7 F7 own7 sH7 sF7 s7=>?_⟩⟩
  have hacc6:σ6[k]? =some (some (.ref acc)):=(t6 k hk).trans hacc
  cases b with
  |false=>
   dsimp only
   rw[if_neg Bool.false_ne_true]at e10⊢
   exact⟨ds.length- (i+1),by omega,rfl,hlt,hacc6,F7,_,own7,sF4.trans (sFn.trans sF7),s7.forget (Zd7 src δ6) (fun j sv hj=>Zd8 hj),e10⟩
  |true=>
   dsimp only
   rw[if_pos rfl]at e10⊢
   obtain⟨⟨rv8,δ8⟩,e11,e12⟩:=Option.bind_eq_some_iff.mp e10
   obtain⟨⟨d9,δ9⟩,e13,e14⟩:=Option.bind_eq_some_iff.mp e12
   refine⟨(ent H1 F2:Ent K),F7,δ6,own7,rv8,δ8,s7,e11,fun y H8 F8 own8 sH8 sF8 s8 r8=>?_⟩
   obtain⟨F9,sF9,s9,r9⟩:=s8.settleR r8
   obtain⟨F10,own10,sF10,s10,r10⟩:=s9.frzR r9 e13
   dsimp only at e14
   split at e14
   ·rename_i zs hz
    by_cases hzl:zs.length<PySem.sizeLine
    ·rw[if_pos hzl]at e14
     obtain⟨v',hv',sh'⟩:=s10.at' k _ hz
     rw[hacc6]at hv';cases hv'
     obtain⟨b,vs,eb,en',r'⟩:=Za0 sh'
     cases eb
     have mb:(acc,HO.lst vs)∈own10 k:=by rw[en'];exact List.mem_cons_self
     refine⟨acc,vs,y,rfl,rfl,(s10.ok k _ mb).2.2,by rw[←r'.length];exact hzl,?_⟩
     have s11:=s10.change (sv':=.ol (zs++[d9])) (o':=.lst (vs++[y])) (ns':=[(acc,.lst (vs++[y]))]) hz hacc6 mb (.ol (r'.snoc r10)) (fun p hp=>.inl (List.mem_singleton.mp hp)) nd1
     exact⟨ds.length- (i+1),by omega,rfl,hlt,hacc6,F10,_,_,sF4.trans (sFn.trans (sF7.trans (sF8.trans (sF9.trans sF10)))),s11.forget (Zd7 src _) (fun j sv hj=>Zd8 hj),e14⟩
    ·rw[if_neg hzl]at e14;cases e14
   ·cases e14
 ·have hz:i=ds.length:=by omega
  subst hz
  rw[List.drop_length]at ef
  cases ef
  refine .inl ⟨(yl F4 H4 (sF2.trans sF4) s4.le _).2 (Nat.le_refl _),?_⟩
  dsimp only at e6
  split at e6
  ·rename_i ys hys
   cases e6
   obtain⟨v',hv',sh'⟩:=s4.at' k _ hys
   rw[hacc]at hv';cases hv'
   obtain⟨b,vs,eb,en',r'⟩:=Za0 sh'
   cases eb
   have mb:(acc,HO.lst vs)∈own4 k:=by rw[en'];exact List.mem_cons_self
   obtain⟨o1,o2,o3⟩:=s4.ok k _ mb
   refine k0 (.ref acc) H4 F4 own2 (sH.trans s4.old) (sF.trans (sF2.trans sF4)) (s2.after s4.old sF4 s4.le fun b o e=>s4.fro b o e) ⟨[(acc,.lst vs)],.ol r',nd1,fun p hp=>?_,fun j p q hp hq e=>?_⟩
   ·obtain rfl:=List.mem_singleton.mp hp
    exact⟨o1,s2.old.free ha,o3⟩
   ·obtain rfl:=List.mem_singleton.mp hp
    have z:=(s2.ok j q hq).2.2
    have e':acc=q.1:=e
    rw[←e',ha]at z;cases z
  ·cases e6
end DL
namespace DL
open PySem PySem.Spec PyProof.Rows L2
variable{K:PySem.W.Frag}
variable{Z:Ent K}
@[simp] noncomputable def intI(f:Int→Int→D):D→D→Option SV
 | .int i,.int j=>some (.fz (f i j))
 |_,_=>none
@[simp] noncomputable def intC(C:Int→Int→Bool)(f:Int→Int→D):D→D→Option SV
 | .int i,.int j=>if C i j=true then some (.fz (f i j))else none
 |_,_=>none
theorem Zwq{g:Int→Int→V}{f:Int→Int→D}(hr:∀F i j,Rep K F (f i j) (g i j)):Z8 Z (rI0 g) (intI f):=by
 intro F H σ δ own x y d1 d2 sv Q s r1 r2 e k
 unfold intI at e
 split at e
 ·cases e
  exact⟨_,_,r1.int,r2.int,k.fz s (hr _ _ _)⟩
 ·cases e
theorem p_rI{C:Int→Int→Prop}{c:Int→Int→Bool}{g:Int→Int→V}{f:Int→Int→D}(hc:∀i j,c i j=true→C i j)(hr:∀F i j,Rep K F (f i j) (g i j)):Z8 Z (rI C g) (intC c f):=by
 intro F H σ δ own x y d1 d2 sv Q s r1 r2 e k
 unfold intC at e
 split at e
 ·split at e
  ·rename_i hcc
   cases e
   exact⟨_,_,r1.int,r2.int,hc _ _ hcc,k.fz s (hr _ _ _)⟩
  ·cases e
 ·cases e
@[simp] noncomputable def subD:D→D→Option SV:=intI fun i j=>.int (i- j)
noncomputable def cMul(i j:Int):Bool:=(decide (-(2^64)<i)&&decide (i<2^64))|| (decide (-(2^64)<j)&&decide (j<2^64))
@[simp] noncomputable def mulD:D→D→Option SV:=intC cMul fun i j=>.int (i*j)
@[simp] noncomputable def cDiv(i j:Int):Bool:=decide (0<j)&&decide (j<1073741824)
@[simp] noncomputable def Zfs:D→D→Option SV:=intC cDiv fun i j=>.int (i / j)
@[simp] noncomputable def cMod(i j:Int):Bool:=decide (0<j)
@[simp] noncomputable def modD:D→D→Option SV:=intC cMod fun i j=>.int (i % j)
@[simp] noncomputable def cPow(i j:Int):Bool:=decide (0≤j)&&decide (j≤1000000)&&decide (i.natAbs<2^64)
@[simp] noncomputable def powD:D→D→Option SV:=intC cPow fun i j=>.int (i^j.toNat)
theorem Zz1:Z8 Z (rI CMul fun i j=>V.int (i*j)) mulD:=p_rI (fun i j h=>by
 unfold cMul at h
 simp only[Bool.or_eq_true,Bool.and_eq_true,decide_eq_true_eq]at h
 exact h) fun _ _ _=>.int _
theorem Zwr:Z8 Z (rI CDiv fun i j=>V.int (i / j)) Zfs:=p_rI (fun i j h=>by
 unfold cDiv at h
 simp only[Bool.and_eq_true,decide_eq_true_eq]at h
 exact h) fun _ _ _=>.int _
theorem Zz2:Z8 Z (rI (fun _ j=>0<j) fun i j=>V.int (i % j)) modD:=p_rI (fun i j h=>by
 unfold cMod at h
 simp only[decide_eq_true_eq]at h
 exact h) fun _ _ _=>.int _
@[simp] noncomputable def ltD:D→D→Option SV:=intI fun i j=>.bl (decide (i<j))
@[simp] noncomputable def leD:D→D→Option SV:=intI fun i j=>.bl (decide (i≤j))
@[simp] noncomputable def gtD:D→D→Option SV:=intI fun i j=>.bl (decide (j<i))
@[simp] noncomputable def geD:D→D→Option SV:=intI fun i j=>.bl (decide (j≤i))
theorem p_lt:Z8 Z (rI0 fun i j=>V.bl (decide (i<j))) ltD:=Zwq fun _ _ _=>.bl _
theorem p_le:Z8 Z (rI0 fun i j=>V.bl (decide (i≤j))) leD:=Zwq fun _ _ _=>.bl _
noncomputable def rStr:R2:=fun x y H Q=>∃i j,x= .str i∧y= .str j∧i.length+j.length≤PySem.sizeLine∧Q (.str (i++j)) H
noncomputable def Zws(K:PySem.W.Frag):R2:=fun x y H Q=>∃l b xs zs,x= .ref l∧y= .ref b∧SqL K H l xs∧SqL K H b zs∧xs.length+zs.length≤PySem.sizeLine∧∀p,H p=none→Q (.ref p) (upd H p (.lst (xs++zs)))
theorem Ztb{X:Cx}:OpR X (binaryOp .Add) (Zws X.K):=by
 intro pins s σ H x y v u Q I rx ry h
 obtain⟨l,b,xs,zs,rfl,rfl,hH,hB,hz,q⟩:=h
 cases rx
 cases ry
 obtain⟨its,r,pl,z⟩:=I.list hH
 obtain⟨its2,r2,pl2,z2⟩:=I.list hB
 have hl:=r.length
 have hl2:=r2.length
 obtain⟨⟨cls,dd,data,sl⟩,ho,hc,n,hd⟩:=pl.isList
 obtain⟨⟨cls2,dd2,data2,sl2⟩,ho2,hc2,n2,hd2⟩:=pl2.isList
 simp only at hc hd hc2 hd2
 subst hc hd hc2 hd2
 have ea:its.toArray++its2.toArray=(its++its2).toArray:=by simp
 refine concat_meets ⟨_,ho,rfl⟩ ⟨_,ho2,rfl⟩ noFill_list_add seq_list_add PySem.F.slot_list_add PySem.F.entry_list_add (PySem.F.args_list_add_2 _ _) (list_addW l b its.toArray its2.toArray n n2 dd dd2 sl sl2 (by rw[List.size_toArray,List.size_toArray];omega)) ⟨ho,ho2,?_⟩
 rw[ea]
 exact⟨.ref _,_,I.lnew (t':=s.toks) (r.append r2) (by rw[List.length_append];omega),rfl,q _ I.fresh⟩
noncomputable def Zwt(K:PySem.W.Frag):R2:=fun x y H Q=>rI0 (fun i j=>V.int (i+j)) x y H Q∨(rStr x y H Q∨Zws K x y H Q)
theorem Zm7{X:Cx}:OpR X (binaryOp .Add) (Zwt X.K):=Zvo.or (Zk8.or Ztb)
@[simp] noncomputable def addD:D→D→Option SV
 | .int i,.int j=>some (.fz (.int (i+j)))
 | .str x,.str y=>if x.length+y.length≤PySem.sizeLine then some (.fz (.str (x++y)))else none
 | .lst xs,.lst ys=>if xs.length+ys.length≤PySem.sizeLine then some (.ol (xs++ys))else none
 |_,_=>none
theorem Zwu:Z8 Z (Zwt K) addD:=by
 intro F H σ δ own x y d1 d2 sv Q s r1 r2 e k
 unfold addD at e
 split at e
 ·cases e
  exact .inl ⟨_,_,r1.int,r2.int,k.fz s (.int _)⟩
 ·split at e
  ·rename_i hz
   cases e
   exact .inr (.inl ⟨_,_,r1.str,r2.str,hz,k.fz s (.str _)⟩)
  ·cases e
 ·split at e
  ·rename_i hz
   cases e
   obtain⟨a,vs,ex,ha,ra⟩:=r1.lst s.le
   obtain⟨b,us,ey,hb,rb⟩:=r2.lst s.le
   exact .inr (.inr ⟨a,b,vs,us,ex,ey,ha,hb,by rw[←ra.length,←rb.length];exact hz,fun p hp=>k.lst s (ra.append rb) hp⟩)
  ·cases e
 ·cases e
@[simp] noncomputable def eqS:D→D→Option Bool
 | .non,.non=>some true
 | .non,.int _=>some false
 | .int _,.non=>some false
 | .non,.bl _=>some false
 | .bl _,.non=>some false
 | .non,.str _=>some false
 | .str _,.non=>some false
 | .int i,.int j=>some (decide (i=j))
 | .bl i,.bl j=>some (decide (i=j))
 | .str i,.str j=>some (decide (i=j))
 | .int _,.str _=>some false
 | .str _,.int _=>some false
 | .bl _,.str _=>some false
 | .str _,.bl _=>some false
 |_,_=>none
theorem Zrw{F H:Hp}{d1 d2:D}{x y:V}{b:Bool}(e:eqS d1 d2=some b)(r1:RepN K F H d1 x)(r2:RepN K F H d2 y):scal x y=true∧b=decide (x=y):=by
 unfold eqS at e
 split at e<;> cases e
 ·rw[r1.non,r2.non];exact⟨rfl,by simp⟩
 ·rw[r1.non,r2.int];exact⟨rfl,by simp⟩
 ·rw[r1.int,r2.non];exact⟨rfl,by simp⟩
 ·rw[r1.non,r2.bl];exact⟨rfl,by simp⟩
 ·rw[r1.bl,r2.non];exact⟨rfl,by simp⟩
 ·rw[r1.non,r2.str];exact⟨rfl,by simp⟩
 ·rw[r1.str,r2.non];exact⟨rfl,by simp⟩
 ·rw[r1.int,r2.int];exact⟨rfl,by simp⟩
 ·rw[r1.bl,r2.bl];exact⟨rfl,by simp⟩
 ·rw[r1.str,r2.str];exact⟨rfl,by simp⟩
 ·rw[r1.int,r2.str];exact⟨rfl,by simp⟩
 ·rw[r1.str,r2.int];exact⟨rfl,by simp⟩
 ·rw[r1.bl,r2.str];exact⟨rfl,by simp⟩
 ·rw[r1.str,r2.bl];exact⟨rfl,by simp⟩
@[simp] noncomputable def eqD(d1 d2:D):Option SV:=(eqS d1 d2).bind fun b=>some (.fz (.bl b))
@[simp] noncomputable def neD(d1 d2:D):Option SV:=(eqS d1 d2).bind fun b=>some (.fz (.bl (!b)))
theorem p_eq:Z8 Z rEq eqD:=by
 intro F H σ δ own x y d1 d2 sv Q s r1 r2 e k
 obtain⟨b,e1,e2⟩:=Option.bind_eq_some_iff.mp e
 cases e2
 obtain⟨h1,h2⟩:=Zrw e1 r1 r2
 subst h2
 exact⟨h1,k.fz s (.bl _)⟩
theorem p_ne:Z8 Z rNe neD:=by
 intro F H σ δ own x y d1 d2 sv Q s r1 r2 e k
 obtain⟨b,e1,e2⟩:=Option.bind_eq_some_iff.mp e
 cases e2
 obtain⟨h1,h2⟩:=Zrw e1 r1 r2
 subst h2
 exact⟨h1,k.fz s (.bl _)⟩
@[simp] noncomputable def D.isNon:D→Bool
 | .non=>true
 |_=>false
theorem Zp3{F H:Hp}{d:D}{x:V}(r:RepN K F H d x):decide (x= .non)=d.isNon:=by
 obtain⟨sv,ns,e,n,sh,hp⟩:=r
 subst e
 cases sh with
 |fz r=>cases r<;> rfl
 |_=>rfl
@[simp] noncomputable def isND(d1 d2:D):Option SV:=if d2.isNon=true then some (.fz (.bl d1.isNon))else none
@[simp] noncomputable def Z3g(d1 d2:D):Option SV:=if d2.isNon=true then some (.fz (.bl (!d1.isNon)))else none
theorem Zp4{d:D}(h:d.isNon=true):d= .non:=by cases d<;> first|rfl|cases h
theorem Zz3:Z8 Z (fun x y H Q=>y=V.non∧Q (.bl (decide (x= .non))) H) isND:=by
 intro F H σ δ own x y d1 d2 sv Q s r1 r2 e k
 unfold isND at e
 split at e
 ·rename_i h
  cases e
  have:=Zp4 h
  subst this
  exact⟨r2.non,by rw[Zp3 r1];exact k.fz s (.bl _)⟩
 ·cases e
theorem Reps.atI{F:Hp}{xs:List D}{vs:List V}{i:Int}{d:D}(r:Reps K F xs vs)(e:L2.atI xs i=some d):∃v,L2.atI vs i=some v∧Rep K F d v:=by
 unfold L2.atI at e⊢
 obtain⟨j,e1,e2⟩:=Option.bind_eq_some_iff.mp e
 obtain⟨v,h1,h2⟩:=r.get e2
 exact⟨v,Option.bind_eq_some_iff.mpr ⟨j,by rw[←r.length];exact e1,h1⟩,h2⟩
@[simp] noncomputable def ixD:D→D→Option SV
 | .lst xs,.int i=>(L2.atI xs i).bind fun d=>some (.fz d)
 | .tup xs,.int i=>(L2.atI xs i).bind fun d=>some (.fz d)
 | .str z,.int i=>if z.length≤PySem.sizeLine then(L2.atI z.cps.toList i).bind fun c=>some (.fz (.str ⟨#[c]⟩))else none
 |_,_=>none
theorem p_ix:Z8 Z (rIx K) ixD:=by
 intro F H σ δ own x y d1 d2 sv Q s r1 r2 e k
 unfold ixD at e
 split at e
 ·obtain⟨d,e1,e2⟩:=Option.bind_eq_some_iff.mp e
  cases e2
  obtain⟨a,vs,ex,ha,ra⟩:=r1.lst s.le
  obtain⟨v,h1,h2⟩:=ra.atI e1
  exact .inl ⟨a,vs,_,v,ex,r2.int,ha,h1,k.fz s h2⟩
 ·obtain⟨d,e1,e2⟩:=Option.bind_eq_some_iff.mp e
  cases e2
  obtain⟨a,vs,ex,ha,ra⟩:=r1.tup s.le
  obtain⟨v,h1,h2⟩:=ra.atI e1
  exact .inr (.inl ⟨a,vs,_,v,ex,r2.int,ha,h1,k.fz s h2⟩)
 ·split at e
  ·rename_i hz
   obtain⟨c,e1,e2⟩:=Option.bind_eq_some_iff.mp e
   cases e2
   exact .inr (.inr ⟨_,_,c,r1.str,r2.int,hz,e1,k.fz s (.str _)⟩)
  ·cases e
 ·cases e
noncomputable abbrev FO:=DSt→Option (Option Int×DSt)
noncomputable def Zcz(Z:Ent K)(f:FO):TO:=fun σ H Q=>∃F δ own o δ',SR Z F H σ δ own∧f δ=some (o,δ')∧∀H' F' own',Same H H'→Same F F'→SR Z F' H' σ δ' own'→Q o H'
@[simp] noncomputable def Ze8:FO:=fun δ=>some (none,δ)
@[simp] noncomputable def Zg3(fe:FE):FO:=fun δ=>(fe δ).bind fun p=>match p.1 with
 | .tmp (.fz (.int i))=>some (some i,p.2)
 |_=>none
section
variable{H:Hp}{σ:L2.St}{Q:VK}{R:Option Int→Hp→Prop}
theorem Zp5(h:Zcz Z Ze8 σ H R):Zmk σ H R:=by
 obtain⟨F,δ,own,o,δ',s,e,k⟩:=h
 cases e
 exact k H F own (Same.refl H) (Same.refl F) s
theorem Zwv{fe:FE}(h:Zcz Z (Zg3 fe) σ H R):Zvz (Zb Z fe) σ H R:=by
 obtain⟨F,δ,own,b,δ',s,e,k⟩:=h
 obtain⟨⟨rv,δ1⟩,e1,e2⟩:=Option.bind_eq_some_iff.mp e
 refine⟨F,δ,own,rv,δ1,s,e1,fun v H1 F1 own1 sH sF s1 r1=>?_⟩
 dsimp only at e2
 split at e2
 ·cases e2
  obtain⟨ns,t⟩:=r1
  cases Zbq t.sh
  exact⟨_,rfl,k H1 F1 own1 sH sF s1⟩
 ·cases e2
@[simp] noncomputable def slF(g:D→Option Int→Option Int→Option SV)(fe:FE)(fl fh:FO):FE:=fun δ=>(fe δ).bind fun p=>(fl p.2).bind fun l=>(fh l.2).bind fun h=>(rdv p.1 h.2).bind fun d=>(g d l.1 h.1).bind fun sv=>some (.tmp sv,h.2)
noncomputable def Zww(Z:Ent K)(r:V→Option Int→Option Int→Hp→VK→Prop)(g:D→Option Int→Option Int→Option SV):Prop:=
 ∀(F H:Hp) (σ:L2.St) (δ:DSt) (own:Nat→Zk) (x:V) (d:D) (lo hi:Option Int) (sv:SV) (Q:VK),SR Z F H σ δ own→RepN K F H d x→g d lo hi=some sv→Fin Z F H σ δ own sv Q→r x lo hi H Q
theorem l_sl{r:V→Option Int→Option Int→Hp→VK→Prop}{g:D→Option Int→Option Int→Option SV}{fe:FE}{fl fh:FO}(hg:Zww Z r g)(h:Zb Z (slF g fe fl fh) σ H Q):tSl r (Zb Z fe) (Zcz Z fl) (Zcz Z fh) σ H Q:=by
 obtain⟨F,δ,own,rv,δ',s,e,k⟩:=h
 obtain⟨⟨rv1,δ1⟩,e1,e⟩:=Option.bind_eq_some_iff.mp e
 obtain⟨⟨lo,δ2⟩,e2,e⟩:=Option.bind_eq_some_iff.mp e
 obtain⟨⟨hi,δ3⟩,e3,e⟩:=Option.bind_eq_some_iff.mp e
 obtain⟨d,e4,e⟩:=Option.bind_eq_some_iff.mp e
 obtain⟨sv,e5,e⟩:=Option.bind_eq_some_iff.mp e
 cases e
 refine⟨F,δ,own,rv1,δ1,s,e1,fun v H1 F1 own1 sH1 sF1 s1 r1=>?_⟩
 obtain⟨F1',sF1',s1',r1'⟩:=s1.settleR r1
 refine⟨F1',δ1,own1,lo,δ2,s1',e2,fun H2 F2 own2 sH2 sF2 s2=>⟨F2,δ2,own2,hi,δ3,s2,e3,fun H3 F3 own3 sH3 sF3 s3=>?_⟩⟩
 exact hg F3 H3 σ δ3 own3 v d lo hi sv Q s3 (s3.rd (r1'.mono (sF2.trans sF3)) e4) e5 fun q H4 F4 ns sH4 sF4 s4 t4=>
  k q H4 F4 own3 (sH1.trans (sH2.trans (sH3.trans sH4))) (sF1.trans (sF1'.trans (sF2.trans (sF3.trans sF4)))) s4 ⟨ns,t4⟩
end
noncomputable def cutD(xs:List D)(lo hi:Option Int):List D:=(xs.drop (HT.sIx xs.length 0 lo)).take (HT.sIx xs.length xs.length hi- HT.sIx xs.length 0 lo)
theorem Reps.cut{F:Hp}{xs:List D}{vs:List V}(r:Reps K F xs vs)(lo hi:Option Int):Reps K F (cutD xs lo hi) (cutV vs lo hi):=by
 unfold cutD cutV
 rw[r.length]
 exact(r.drop _).take _
noncomputable def rSlS:V→Option Int→Option Int→Hp→VK→Prop:=fun x lo hi H Q=>∃z,x= .str z∧z.length≤PySem.sizeLine∧Q (.str (Txt.slice z lo hi)) H
theorem Zwx{X:Cx}:SlR X rSlS:=by
 intro pins s σ H x v vl vu lo hi sl Q I rx hs pl pu h
 obtain⟨z,rfl,hz,q⟩:=h
 obtain⟨t,rfl⟩:=rx
 refine⟨"str",_,F.slot_str_getitem.lookup,typeIs_str _ _ _,?_⟩
 have fin:∀(t':Tok) (k:Nat),EP X pins σ Q (.str (Txt.slice z lo hi) t') {s with toks:=k}:=fun t' k=>⟨.str (Txt.slice z lo hi),H,I.tok _,⟨_,rfl⟩,q⟩
 cases pl with
 |none=>cases pu with
  |none=>exact wpAny_getItem_str_slice (l:=none) (u:=none) (st:=none) hs rfl (post_val_or_str ⟨Nat.le_trans (Txt.slice_le z _ _) hz,fin⟩)
  |int j tj=>exact wpAny_getItem_str_slice (l:=none) (u:=some (j,tj)) (st:=none) hs rfl (post_val_or_str ⟨Nat.le_trans (Txt.slice_le z _ _) hz,fin⟩)
 |int i ti=>cases pu with
  |none=>exact wpAny_getItem_str_slice (l:=some (i,ti)) (u:=none) (st:=none) hs rfl (post_val_or_str ⟨Nat.le_trans (Txt.slice_le z _ _) hz,fin⟩)
  |int j tj=>exact wpAny_getItem_str_slice (l:=some (i,ti)) (u:=some (j,tj)) (st:=none) hs rfl (post_val_or_str ⟨Nat.le_trans (Txt.slice_le z _ _) hz,fin⟩)
@[simp] noncomputable def slD:D→Option Int→Option Int→Option SV
 | .lst xs,lo,hi=>some (.ol (cutD xs lo hi))
 | .str z,lo,hi=>if z.length≤PySem.sizeLine then some (.fz (.str (Txt.slice z lo hi)))else none
 |_,_,_=>none
theorem p_sl:Zww Z (fun x lo hi H Q=>rSlL K x lo hi H Q∨rSlS x lo hi H Q) slD:=by
 intro F H σ δ own x d lo hi sv Q s r1 e k
 unfold slD at e
 split at e
 ·cases e
  obtain⟨a,vs,ex,ha,ra⟩:=r1.lst s.le
  exact .inl ⟨a,vs,ex,ha,fun p hp=>k.lst s (ra.cut _ _) hp⟩
 ·split at e
  ·rename_i hz
   cases e
   exact .inr ⟨_,r1.str,hz,k.fz s (.str _)⟩
  ·cases e
 ·cases e
end DL
namespace L2
open PySem PySem.Spec PyProof.Rows
section
variable{X:Cx}{tg:Expr}
noncomputable def Ite(K:PySem.W.Frag)(a:Addr):It:=
 ⟨fun i H=>∃xs x,SqL K H a xs∧xs[i]? =some x,fun i H x H'=>∃p v,x= .ref p∧H p=none∧H'=upd H p (.tup [.int (i:Nat),v])∧∀xs,SqL K H a xs→xs[i]? =some v,fun i H=>∃xs,SqL K H a xs∧xs.length≤i⟩
theorem Inv.turnedT{pins:List (Addr×Obj)}{σ:L2.St}{H:Hp}{s:Shared}{h':Heap}{t':Nat}{e it T:Addr}{xs:List V}{its:List Value}(I:Inv X pins σ H s)(k:∀b o,b≠e→b≠it→s.heap.get? b=some o→h'.get? b=some o)
  (f1:FpOk X pins H e) (f2:FpOk X pins H it) (hT:T=s.heap.objs.size) (ht:IsTup h' T its.toArray) (rv:Vals xs its) (hz:xs.length≤sizeLine) (he:∃o,h'.get? e=some o) (hi:∃o,h'.get? it=some o):
  Inv X pins σ (upd H T (.tup xs)) {s with heap:=h',toks:=t'}:=by
 have hTn:H T=none:=by rw[hT];exact I.hok.fresh (Nat.le_refl _)
 have neT:∀b o,s.heap.get? b=some o→b≠T:=fun b o q=>by rw[hT];exact Nat.ne_of_lt (Heap.lt_size q)
 have ntr:∀b u,H b=some u→b≠e∧b≠it:=fun b u q=>⟨(fun z=>by rw[z,f1.1]at q;cases q),(fun z=>by rw[z,f2.1]at q;cases q)⟩
 refine I.step (g':=s.gens) (d':=s.drawn) (ch:=[e,it]) (fun b hb=>?_) (fun b o _ _ hc q _=>k b o (fun z=>hc (by simp[z])) (fun z=>hc (by simp[z])) q)
  (fun b o _ _ hc q _=>⟨o.slots,k b o (fun z=>hc (by simp[z])) (fun z=>hc (by simp[z])) q⟩) (fun b o _ q n=>by rw[Zo (neT b o q)];exact n)
  (fun b o hc q=>⟨o,k b o (fun z=>hc (by simp[z])) (fun z=>hc (by simp[z])) q⟩) (fun b ys q=>by rw[Zo (Z5 q hTn)];exact q) (fun b o u q=>by rw[Zo (Z5 q hTn)];exact q)
  (fun b ps q=>⟨#[],by rw[Zo (Z5 q hTn),q];simp⟩) (fun m hm=>?_) (fun b u q=>?_) I.bare
 ·have hb':b=e∨b=it:=by simpa using hb
  rcases hb' with z|z
  ·subst z;obtain⟨_,a1,_,a3,a4,a5⟩:=f1;exact⟨a3,a1,a4,a5⟩
  ·subst z;obtain⟨_,a1,_,a3,a4,a5⟩:=f2;exact⟨a3,a1,a4,a5⟩
 ·obtain⟨o,es,ep,ho,r⟩:=hm
  exact⟨o,es,ep,k _ o (Ne.symm f1.2.1) (Ne.symm f2.2.1) ho,r⟩
 ·by_cases hb:b=T
  ·subst hb
   rw[Z3]at q;cases q
   exact⟨hz,its,rv,ht⟩
  ·rw[Zo hb]at q
   refine(I.hok b u q).stay (fun c v hc z=>?_) (fun c z=>by rw[Zo (Z5 z hTn)];exact z) fun c ys z=>by rw[Zo (Z5 z hTn)];exact z
   rcases hc with y|y
   ·rw[y]at z⊢;exact k _ _ (ntr b u q).1 (ntr b u q).2 z
   ·exact k _ _ (ntr c _ y).1 (ntr c _ y).2 z
theorem Zm8{P:Program}{w:World}{K:PySem.W.Frag}{elts:List Expr}{kk:Nat}{tpos:Pos}(a e it:Addr)(hei:e≠it):Turn P w K (.Tuple elts kk tpos) (Ite K a) [e,it] e (fun i h=>(∃old,IsEnum h e it ((i:Nat):Int) old)∧h.IsListIter it a i)where
 mem:=by simp
 obj:=fun i h st b hb=>by
  have hb':b=e∨b=it:=by simpa using hb
  rcases hb' with z|z
  ·subst z
   obtain⟨old,q⟩:=st.1
   exact⟨_,q,fun v y=>by
    have y':Data.fields _=Data.cell v:=y
    cases y'⟩
  ·subst z
   obtain⟨o,q,c,d⟩:=st.2
   exact⟨o,q,fun v y=>by rw[d]at y;cases y⟩
 keep:=fun i h h' st k=>⟨let⟨old,q⟩:=st.1;⟨old,k e (by simp) _ q⟩,st.2.at fun o q=>k it (by simp) o q⟩
 item:=by
  intro X hP hw hK hc i pins s σ H E I hf st hg
  subst hP hw hK
  obtain⟨xs,x,hq,hx⟩:=hg
  obtain⟨its,rv,p,hz⟩:=I.list hq
  obtain⟨u,hu,ru⟩:=rv.get hx
  obtain⟨⟨old,he⟩,hit⟩:=st
  have hl:s.heap.IsList a its.toArray:=p.isList
  have ai:a≠it:=fun z=>by
   obtain⟨o1,q1,c1,_⟩:=hit
   obtain⟨o2,q2,c2,_⟩:=hl
   rw[z,q1]at q2;cases q2
   rw[c1]at c2;exact absurd c2 (by decide)
  have ae:e∉[it,a]:=fun z=>by
   have z':e=it∨e=a:=by simpa using z
   rcases z' with z|z
   ·exact hei z
   ·obtain⟨o2,q2,c2,_⟩:=hl
    rw[←z,he]at q2;cases q2;exact absurd (show Value.type "enumerate"=Value.type "list"from c2) (by decide)
  have D:=Draws.list (prog:=X.prog) (w:=X.w) (A:=X.A.in1) (by first|exact I.ok.hd hc| (rw[show X.A.in1.handled=X.A.handled from rfl];exact I.ok.hd hc)) it a ai its.toArray
  have hlt:i<its.toArray.size:=by
   have:=(List.getElem?_eq_some_iff.mp hu).1
   rw[List.size_toArray];exact this
  refine wpAny_pyNext_enum_itemD D he ⟨hit,hl⟩ hlt hei ae fun y h' tk hy hout st' hT hsz hk=>⟨.ref s.heap.objs.size,rfl,?_⟩
  refine wpAny_letOwnedTupleGo_enum hout fun h2 he2 hs2=>?_
  have hy':its.toArray[i]? =some y:=hy
  have ey:y=u:=by
   have:its[i]? =some y:=by simpa using hy'
   rw[hu]at this;cases this;rfl
  subst ey
  have kk:∀b o,b≠e→b≠it→s.heap.get? b=some o→h2.get? b=some o:=fun b o h1 h3 q=>(hs2.2 b h1).trans (hk b o h1 h3 q)
  have neT:s.heap.objs.size≠e:=Nat.ne_of_gt (Heap.lt_size he)
  have I2:=I.turnedT (h':=h2) (t':=tk+1) (e:=e) (it:=it) (T:=s.heap.objs.size) (xs:=[.int (i:Nat),x]) (its:=[.int i tk,y]) kk (hf e (by simp)) (hf it (by simp)) rfl ⟨_,(hs2.2 _ neT).trans hT,rfl,_,rfl⟩ (.cons ⟨tk,rfl⟩ (.cons ru .nil)) (by show 2≤sizeLine;decide)
   ⟨_,he2⟩ (let⟨o,q,_⟩:=st'.1;⟨o,(hs2.2 it (Ne.symm hei)).trans q⟩)
  refine⟨.ref s.heap.objs.size,_,I2,rfl,⟨s.heap.objs.size,x,rfl,I.hok.fresh (Nat.le_refl _),rfl,fun ys hy2=>by rw[I.list_inj hy2 hq];exact hx⟩,⟨⟨_,he2⟩,st'.1.at fun o q=>(hs2.2 it (Ne.symm hei)).trans q⟩,fun b hb=>?_⟩
  rw[Zo fun z=>?_]
  ·exact(hf b hb).1
  ·have hb':b=e∨b=it:=by simpa using hb
   rcases hb' with y|y
   ·rw[←z,y]at neT;exact neT rfl
   ·obtain⟨o,q,_⟩:=hit
    rw[y]at z
    exact absurd (Heap.lt_size q) (by rw[z];exact Nat.lt_irrefl _)
 done:=by
  intro X hP hw hK hc i pins s σ H E I hf st hg
  subst hP hw hK
  obtain⟨xs,hq,hx⟩:=hg
  obtain⟨its,rv,p,hz⟩:=I.list hq
  obtain⟨⟨old,he⟩,hit⟩:=st
  obtain⟨f0,f1,f2,f3,f4,f5⟩:=hf it (by simp)
  have hl:=rv.length
  exact wpAny_pyNext_enum_end (I.ok.hd hc) he hit p.isList (by simp;omega) fun h' eb=>⟨rfl,I.turned (t':=s.toks) (fun b o hb q=>eb b o hb q) f0 f1 f3 f4 f5⟩
 self:=fun _ _ _ _ _ st h=>let⟨⟨old,he⟩,_⟩:=st;wpAny_pyIter_enum he h
noncomputable def Zwy(K:PySem.W.Frag)(ta:TA):TI:=fun σ H R=>ta σ H fun vs H1=>∃a xs,vs=[.ref a]∧SqL K H1 a xs∧R (Ite K a) H1
theorem Ztc{l:Expr}{elts:List Expr}{kk:Nat}{tpos p pos:Pos}{ta:TA}(hg:Gl X "enumerate")(hm:X.mg "enumerate"=none)(ha:PA X [l] ta)(hs:starEach [l] X.env=[(false,eval l X.env)]:=by rfl):
  PI X (.Tuple elts kk tpos) (.Call (.Name "enumerate" p) [l] [] pos) (Zwy X.K ta):=by
 intro pins s σ H R I h
 refine Call_ (Zdw I hg hm boot_enumerate (PyProof.Rows.callWith_type1 (thn (ha pos pins s σ H _ I h) fun us s1 ⟨vs,H1,I1,r1,q1⟩=>?_) hs rfl))
 obtain⟨a,xs,e,hq,q⟩:=q1
 subst e
 obtain⟨u,rfl,ru⟩:=Zcv r1
 cases ru
 obtain⟨its,rv,p,hz⟩:=I1.list hq
 refine call_enumerate_list p.isList fun h' he hit hsz hk=>wpAny_pyIter_enum he ?_
 have I2:Inv X pins σ H1 {s1 with heap:=h'}:=I1.kept (t':=s1.toks) hk
 refine⟨s1.heap.objs.size+1,[s1.heap.objs.size+1,s1.heap.objs.size],_,_,H1,rfl,I2,Zm8 a _ _ (Nat.succ_ne_self _),⟨⟨.none,by simpa using he⟩,hit⟩,fun b hb=>?_,q⟩
 have hb':b=s1.heap.objs.size+1∨b=s1.heap.objs.size:=by simpa using hb
 rcases hb' with z|z
 ·subst z;exact I1.fpOk (Nat.le_succ _) (I1.hok.fresh (Nat.le_succ _))
 ·subst z;exact I1.fpOk (Nat.le_refl _) (I1.hok.fresh (Nat.le_refl _))
theorem Zis:∀{xs:List Str} {us:List Value},Vals (xs.map V.str) us→∃l:List (Str×Tok),us=strValues l∧l.map (·.1)=xs
 | [],_,r=>by rw[List.map_nil]at r;cases r;exact⟨[],rfl,rfl⟩
 |x::xs,_,r=>by
  rw[List.map_cons]at r
  cases r with
  |cons h t=>
   obtain⟨tk,rfl⟩:=h
   obtain⟨l,e1,e2⟩:=Zis t
   exact⟨(x,tk)::l,by rw[e1];rfl,by rw[List.map_cons,e2]⟩
noncomputable def Zz4(K:PySem.W.Frag):V→List V→Hp→VK→Prop:=fun x xs H Q=>∃sep p ys,x= .str sep∧xs=[.ref p]∧SqL K H p (ys.map V.str)∧JoinOk sep ys=true∧Q (.str (Txt.join sep ys)) H
theorem Ztd:MtR X "str.join" (Zz4 X.K):=by
 intro pins s σ H x xs v us Q I rx rs h
 obtain⟨sep,p,ys,rfl,rfl,hq,hok,q⟩:=h
 obtain⟨t,rfl⟩:=rx
 obtain⟨u,rfl,ru⟩:=Zcv rs
 cases ru
 obtain⟨its,rv,pl,hz⟩:=I.list hq
 obtain⟨l,e1,e2⟩:=Zis rv
 subst e1
 exact SC.join pl.isList e2 hok fun t' k=>⟨.str (Txt.join sep ys),H,I.tok _,⟨_,rfl⟩,q⟩
inductive TyX(K:PySem.W.Frag)(H:Hp):V→String→Prop where
 |non:TyX K H .non "NoneType"
 |bl (x:Bool):TyX K H (.bl x) "bool"
 |int (i:Int):TyX K H (.int i) "int"
 |str (x:Str):TyX K H (.str x) "str"
 |lst {a:Addr} {xs:List V} (e:SqL K H a xs):TyX K H (.ref a) "list"
 |tup {a:Addr} {xs:List V} (e:SqT K H a xs):TyX K H (.ref a) "tuple"
 |dK {a:Addr} {kvs:List (Key×V)} {ep:Nat} (e:H a=some (.dK kvs ep)):TyX K H (.ref a) "dict"
 |dT {a:Addr} {kvs:List (List Key×V)} {ep:Nat} {bs:List Addr} (e:H a=some (.dT kvs ep bs)):TyX K H (.ref a) "dict"
theorem Zp6{pins:List (Addr×Obj)}{σ:L2.St}{H:Hp}{s:Shared}{A:Around}{E:Value→Shared→Prop}{Q:Value→Shared→Prop}{c:Value}{b:Bool}{x:V}{u:Value}{T:String}(I:Inv X pins σ H s)(rx:RelV x u)(ty:TyX X.K H x T)(e:PySem.W.kitOne X.K (.type T) c=some b)(h:∀tk,Q (.bool b) {s with toks:=tk}):
  wpAny (model X.prog X.w) A (call (.builtin "isinstance") [u,c]) Q E s:=by
 cases ty with
 |non=>cases(show u=Value.none from rx);exact PySem.W.kia_one PySem.W.kitx_none I.kIn True.intro e (fun z=>nomatch z) h
 |bl y=>cases(show u=Value.bool y from rx);exact PySem.W.kia_one PySem.W.kitx_bool I.kIn True.intro e (fun z=>nomatch z) h
 |int i=>obtain⟨t,q⟩:=(show∃t,u=Value.int i t from rx);cases q;exact PySem.W.kia_one PySem.W.kitx_int I.kIn True.intro e (fun z=>nomatch z) h
 |str y=>obtain⟨t,q⟩:=(show∃t,u=Value.str y t from rx);cases q;exact PySem.W.kia_one PySem.W.kitx_str I.kIn True.intro e (fun z=>nomatch z) h
 | @lst a xs ea=>
  cases(show u=Value.ref a from rx)
  obtain⟨its,_,pl,_⟩:=I.list ea
  obtain⟨o,h1,h2,_⟩:=pl.isList
  exact PySem.W.kia_one PySem.W.kitx_list I.kIn ⟨o,h1,h2⟩ e (fun z=>nomatch z) h
 | @tup a xs ea=>
  cases(show u=Value.ref a from rx)
  obtain⟨its,_,pl,_⟩:=I.tuple ea
  obtain⟨o,h1,h2,_⟩:=pl
  exact PySem.W.kia_one PySem.W.kitx_tuple I.kIn ⟨o,h1,h2⟩ e (fun z=>nomatch z) h
 | @dK a kvs ep ea=>
  cases(show u=Value.ref a from rx)
  obtain⟨_,_,vs,_,p⟩:=(show Zaq X.prog X.w H s.heap a (.dK kvs ep)from I.hok a _ ea)
  obtain⟨o,es,h1,h2,_⟩:=p
  exact PySem.W.kia_one PySem.W.kitx_dict I.kIn ⟨o,h1,h2.1⟩ e (fun z=>nomatch z) h
 | @dT a kvs ep bs ea=>
  cases(show u=Value.ref a from rx)
  obtain⟨_,_,xs,_,o,es,h1,h2,_⟩:=(show Zaq X.prog X.w H s.heap a (.dT kvs ep bs)from I.hok a _ ea)
  exact PySem.W.kia_one PySem.W.kitx_dict I.kIn ⟨o,h1,h2.1⟩ e (fun z=>nomatch z) h
noncomputable def rIsI(K:PySem.W.Frag)(c:String):List V→Hp→VK→Prop:=fun xs H Q=>∃x t b,xs=[x,.ty c]∧TyX K H x t∧PySem.W.kitOne K (.type t) (.type c)=some b∧Q (.bl b) H
theorem Zp7{c:String}:Zcu X (.builtin "isinstance") (rIsI X.K c):=by
 intro pins s σ H xs us Q I r h
 obtain⟨x,t,b,rfl,ty,e,q⟩:=h
 obtain⟨u,w',rfl,r1,r2⟩:=Zvv r
 cases r2
 exact Zp6 I r1 ty e fun tk=>⟨.bl b,H,I.tok _,rfl,q⟩
end
end L2
namespace DL
open PySem PySem.Spec PyProof.Rows L2
variable{K:PySem.W.Frag}
noncomputable def Zd9(xs:List D):List D:=xs.zipIdx.map fun p=>.tup [.int (p.2:Nat),p.1]
theorem Zg4{xs:List D}{i:Nat}{d:D}(h:(Zd9 xs)[i]? =some d):∃x,xs[i]? =some x∧d= .tup [.int (i:Nat),x]:=by
 unfold Zd9 at h
 rw[List.getElem?_map,List.getElem?_zipIdx]at h
 cases e:xs[i]? with
 |none=>rw[e]at h;cases h
 |some x=>rw[e]at h;cases h;exact⟨x,rfl,by simp⟩
theorem Zg5(xs:List D):(Zd9 xs).length=xs.length:=by unfold Zd9;rw[List.length_map,List.length_zipIdx]
theorem Zit{F:Hp}{a:Addr}{xs:List D}{vs:List V}(h:SqL K F a vs)(r:Reps K F xs vs):Zch K (Ite K a) F (Zd9 xs):=fun F' H sF sH i=>by
 have q:SqL K H a vs:=Zah (sF.trans sH) h
 refine⟨fun d hd=>?_,fun hl=>⟨vs,q,by rw[←r.length,←Zg5];exact hl⟩⟩
 obtain⟨x,hx,rfl⟩:=Zg4 hd
 obtain⟨v,h1,h2⟩:=r.get hx
 refine⟨⟨vs,v,q,h1⟩,fun y H' zq9=>?_⟩
 obtain⟨p,w,e1,e2,e3,e4⟩:=zq9
 subst e1 e3
 have e5:=e4 vs q
 rw[h1]at e5;cases e5
 have hp:F' p=none:=sH.free e2
 have sm:Same F' (addL F' [(p,.tup [.int (i:Nat),v])]):=Zan fun z hz=>by obtain rfl:=List.mem_singleton.mp hz;exact hp
 refine⟨Zbp e2,[(p,.tup [.int (i:Nat),v])],nd1,fun z hz=>?_,.tup Z3 (.cons (.int _) (.cons (h2.mono (sF.trans sm)) .nil))⟩
 obtain rfl:=List.mem_singleton.mp hz
 exact⟨e2,Z3⟩
section
variable{Z:Ent K}{H:Hp}{σ:L2.St}{Q:VK}
@[simp] noncomputable def Zwz(fd:FD):FD:=fun δ=>(fd δ).bind fun p=>match p.1 with
 | [.lst xs]=>some (Zd9 xs,p.2)
 |_=>none
theorem Zte{fd:FD}{R:It→Hp→Prop}(h:Zbr Z (Zwz fd) σ H R):Zwy K (Zay Z fd) σ H R:=by
 obtain⟨F,δ,own,ds,δ',s,e,k⟩:=h
 obtain⟨⟨ds1,δ1⟩,e1,e2⟩:=Option.bind_eq_some_iff.mp e
 refine⟨F,δ,own,ds1,δ1,s,e1,fun vs H1 F1 own1 sH sF s1 r1=>?_⟩
 dsimp only at e2
 split at e2
 ·rename_i xs
  cases e2
  cases r1 with
  |cons h t=>
   cases t
   cases h with
   |lst h r=>exact⟨_,_,rfl,Zah s1.le h,k _ H1 F1 own1 sH sF s1 (Zit h r)⟩
 ·cases e2
@[simp] noncomputable def D.ty:D→String
 | .str _=>"str"
 | .int _=>"int"
 | .lst _=>"list"
 | .dK _ _=>"dict"
 | .dT _ _=>"dict"
 |_=>"?"
@[simp] noncomputable def tyOk(T:String)(d:D):Bool:=T==d.ty&&(T=="str" ||T=="list" ||T=="dict")
theorem Zw0{F H:Hp}{d:D}{x:V}{T:String}(le:Same F H)(r:RepN K F H d x)(h:tyOk T d=true):tyV K T x H:=by
 unfold tyOk at h
 simp only[Bool.and_eq_true,beq_iff_eq]at h
 obtain⟨h1,h2⟩:=h
 subst h1
 cases d with
 |str y=>rw[r.str];rfl
 |lst xs=>
  obtain⟨a,vs,e,ha,_⟩:=r.lst le
  subst e
  exact .inl ⟨rfl,vs,ha⟩
 |dK ks vs=>
  obtain⟨a,kvs,e,⟨ep,ha⟩,_⟩:=r.dK le
  subst e
  exact .inr (.inr (.inl ⟨rfl,.inl ⟨kvs,ep,ha⟩⟩))
 |dT ks vs=>
  obtain⟨a,kvs,e,⟨ep,bs,ha⟩,_⟩:=r.dT le
  subst e
  exact .inr (.inr (.inl ⟨rfl,.inr ⟨kvs,ep,bs,ha⟩⟩))
 |non=>exact absurd (show("?"=="str" || "?"=="list" || "?"=="dict")=true from h2) (by decide)
 |bl b=>exact absurd (show("?"=="str" || "?"=="list" || "?"=="dict")=true from h2) (by decide)
 |int i=>exact absurd (show("int"=="str" || "int"=="list" || "int"=="dict")=true from h2) (by decide)
 |tup xs=>exact absurd (show("?"=="str" || "?"=="list" || "?"=="dict")=true from h2) (by decide)
 |exc C ks vs=>exact absurd (show("?"=="str" || "?"=="list" || "?"=="dict")=true from h2) (by decide)
@[simp] noncomputable def bmF(T:String)(g:List D→Option SV)(fo:FE)(fa:FA):FE:=fun δ=>(fo δ).bind fun p=>(rdv p.1 p.2).bind fun d0=>if tyOk T d0=true then(fa p.2).bind fun q=>(Zcl (p.1::q.1) q.2).bind fun ds=>(g ds).bind fun sv=>some (.tmp sv,q.2)else none
noncomputable def Zm9(Z:Ent K)(r:V→List V→Hp→VK→Prop)(g:List D→Option SV):Prop:=Zfp Z (fun vs H Q=>∃x xs,vs=x::xs∧r x xs H Q) g
theorem l_bm{T:String}{r:V→List V→Hp→VK→Prop}{g:List D→Option SV}{fo:FE}{fa:FA}(hg:Zm9 Z r g)(h:Zb Z (bmF T g fo fa) σ H Q):tBM K T r (Zb Z fo) (Zc8 Z fa) σ H Q:=by
 obtain⟨F,δ,own,rv,δ',s,e,k⟩:=h
 obtain⟨⟨rv1,δ1⟩,e1,e⟩:=Option.bind_eq_some_iff.mp e
 obtain⟨d0,e2,e⟩:=Option.bind_eq_some_iff.mp e
 dsimp only at e
 split at e
 ·rename_i ht
  obtain⟨⟨rvs,δ2⟩,e3,e⟩:=Option.bind_eq_some_iff.mp e
  obtain⟨ds,e4,e⟩:=Option.bind_eq_some_iff.mp e
  obtain⟨sv,e5,e⟩:=Option.bind_eq_some_iff.mp e
  cases e
  refine⟨F,δ,own,rv1,δ1,s,e1,fun v H1 F1 own1 sH1 sF1 s1 r1=>?_⟩
  obtain⟨F1',sF1',s1',r1'⟩:=s1.settleR r1
  refine⟨Zw0 s1'.le (s1'.rd r1' e2) ht,F1',δ1,own1,rvs,δ2,s1',e3,fun vs H2 F2 own2 sH2 sF2 s2 r2=>?_⟩
  obtain⟨x,xs,ex,q⟩:=hg F2 H2 σ δ2 own2 (v::vs) ds sv Q s2 (s2.rdAll (.cons (r1'.mono sF2) r2) e4) e5 fun q H4 F4 ns sH4 sF4 s4 t4=>
   k q H4 F4 own2 (sH1.trans (sH2.trans sH4)) (sF1.trans (sF1'.trans (sF2.trans sF4))) s4 ⟨ns,t4⟩
  injection ex with ex1 ex2
  subst ex1 ex2
  exact q
 ·cases e
end
@[simp] noncomputable def strs?:List D→Option (List Str)
 | []=>some []
 | .str x::r=>(strs? r).bind fun t=>some (x::t)
 |_=>none
theorem Ziu{F:Hp}:∀{ds:List D} {xs:List Str} {vs:List V},strs? ds=some xs→Reps K F ds vs→vs=xs.map V.str
 | [],_,_,e,r=>by cases e;cases r;rfl
 |d::r,xs,vs,e,q=>by
  cases q with
  |cons h t=>
   unfold strs? at e
   split at e
   ·rename_i e0;cases e0
   ·rename_i x r' e0
    cases e0
    obtain⟨ys,e1,e2⟩:=Option.bind_eq_some_iff.mp e
    cases e2
    cases h
    rw[Ziu e1 t];rfl
   ·cases e
@[simp] noncomputable def Z3h:List D→Option SV
 | [.str sep,.lst xs]=>(strs? xs).bind fun ys=>if JoinOk sep ys=true then some (.fz (.str (Txt.join sep ys)))else none
 |_=>none
variable{Z:Ent K}
@[simp] noncomputable def D.pyTy:D→String
 | .non=>"NoneType"
 | .bl _=>"bool"
 | .int _=>"int"
 | .str _=>"str"
 | .tup _=>"tuple"
 | .lst _=>"list"
 | .dK _ _=>"dict"
 | .dT _ _=>"dict"
 | .exc _ _ _=>"?"
@[simp] noncomputable def D.isExc:D→Bool
 | .exc _ _ _=>true
 |_=>false
theorem Ztf{F H:Hp}{d:D}{x:V}(le:Same F H)(r:RepN K F H d x)(hx:d.isExc=false):TyX K H x d.pyTy:=by
 cases d with
 |exc C ks vs=>cases hx
 |non=>rw[r.non];exact .non
 |bl b=>rw[r.bl];exact .bl b
 |int i=>rw[r.int];exact .int i
 |str y=>rw[r.str];exact .str y
 |tup xs=>obtain⟨a,vs,e,ha,_⟩:=r.tup le;subst e;exact .tup ha
 |lst xs=>
  obtain⟨a,vs,e,ha,_⟩:=r.lst le
  subst e
  exact .lst ha
 |dK ks vs=>obtain⟨a,kvs,e,⟨ep,ha⟩,_⟩:=r.dK le;subst e;exact .dK ha
 |dT ks vs=>obtain⟨a,kvs,e,⟨ep,bs,ha⟩,_⟩:=r.dT le;subst e;exact .dT ha
@[simp] noncomputable def isiD(c:String)(d:D):Option SV:=if d.isExc=true then none else some (.fz (.bl (d.pyTy==c|| (c=="int" &&d.pyTy=="bool"))))
theorem Zz5{c:String}(hk:∀d:D,d.isExc=false→PySem.W.kitOne K (.type d.pyTy) (.type c)=some (d.pyTy==c|| (c=="int" &&d.pyTy=="bool"))):Zwe Z (fun x H Q=>rIsI K c [x,.ty c] H Q) (isiD c):=by
 intro F H σ δ own x d sv Q s r e k
 unfold isiD at e
 split at e
 ·cases e
 ·rename_i hx
  cases e
  have hx':d.isExc=false:=by cases z:d.isExc with
   |true=>exact absurd z hx
   |false=>rfl
  exact⟨x,_,_,rfl,Ztf s.le r hx',hk d hx',k.fz s (.bl _)⟩
@[simp] noncomputable def lenD:List D→Option SV
 | [.lst xs]=>some (.fz (.int (xs.length:Nat)))
 | [.tup xs]=>some (.fz (.int (xs.length:Nat)))
 | [.str x]=>if x.length≤PySem.sizeLine then some (.fz (.int (x.length:Nat)))else none
 |_=>none
theorem Ztg:Zfp Z (fun xs H Q=>(∃p ys,xs=[V.ref p]∧(SqL K H p ys∨SqT K H p ys)∧Q (.int ys.length) H)∨(∃z,xs=[V.str z]∧z.length≤PySem.sizeLine∧Q (.int z.length) H)) lenD:=by
 intro F H σ δ own vs ds sv Q s r e k
 unfold lenD at e
 split at e
 ·cases e
  cases r with
  |cons h t=>
   cases t
   obtain⟨a,us,ex,ha,ra⟩:=h.lst s.le
   subst ex
   exact .inl ⟨a,us,rfl,.inl ha,by rw[←ra.length];exact k.fz s (.int _)⟩
 ·cases e
  cases r with
  |cons h t=>
   cases t
   obtain⟨a,us,ex,ha,ra⟩:=h.tup s.le
   subst ex
   exact .inl ⟨a,us,rfl,.inr ha,by rw[←ra.length];exact k.fz s (.int _)⟩
 ·split at e
  ·rename_i hz
   cases e
   cases r with
   |cons h t=>
    cases t
    exact .inr ⟨_,by rw[h.str],hz,k.fz s (.int _)⟩
  ·cases e
 ·cases e
@[simp] noncomputable def Z3i:List D→Option SV
 | [.lst xs]=>some (.ol xs)
 | [.tup xs]=>some (.ol xs)
 |_=>none
@[simp] noncomputable def Z19:List D→Option SV
 | [.lst xs]=>some (.fz (.tup xs))
 |_=>none
@[simp] noncomputable def intD:List D→Option SV
 | [.int i]=>some (.fz (.int i))
 | [.bl b]=>some (.fz (.int (if b then 1 else 0)))
 |_=>none
theorem Zz6:Zfp Z (fun xs H Q=>(∃i,xs=[V.int i]∧Q (.int i) H)∨∃k,xs=[V.bl k]∧Q (.int (if k then 1 else 0)) H) intD:=by
 intro F H σ δ own vs ds sv Q s r e k
 unfold intD at e
 split at e
 ·cases e
  cases r with
  |cons h t=>cases t;exact .inl ⟨_,by rw[h.int],k.fz s (.int _)⟩
 ·cases e
  cases r with
  |cons h t=>cases t;exact .inr ⟨_,by rw[h.bl],k.fz s (.int _)⟩
 ·cases e
section
variable{X:Cx}{Z:Ent X.K}{a b c:Expr}{fa fb fc:FE}{pos:Pos}
theorem Ze(i:Nat){x:Str}{pos:Pos}(hN:X.N[i]? =some x:=by rfl)(hv:Vis X.env.scope x:=by first|exact Or.inl rfl|exact Or.inr (Or.inl rfl)|exact Or.inr (Or.inr rfl))(hd:(x==("__debug__":Str))=false:=by decide)
  (hcd:(x==("__classdict__":Str))=false:=by decide):PE X (.Name x pos) (Zb Z (Zd i)):=(Ze5 hN hv hd hcd).imp fun _ _ _ h=>Zzr h
theorem Zl{i:Int}{j:Nat}:PE X (.Constant (.int i) j pos) (Zb Z (Za (.int i))):=Zri.imp fun _ _ _ h=>Zc9 (fun _=>.int _) h
theorem e_bl{i:Bool}{j:Nat}:PE X (.Constant (.bool i) j pos) (Zb Z (Za (.bl i))):=Zzc.imp fun _ _ _ h=>Zc9 (fun _=>.bl _) h
theorem Ziv{j:Nat}:PE X (.Constant .none j pos) (Zb Z (Za .non)):=Zvb.imp fun _ _ _ h=>Zc9 (fun _=>.non) h
theorem Zbb{i:Str}{j:Nat}:PE X (.Constant (.str i) j pos) (Zb Z (Za (.str i))):=Zjo.imp fun _ _ _ h=>Zc9 (fun _=>.str _) h
theorem Ziw{x:Str}{y:Str}{t:Tok}(hm:X.mg x=some (.str y t))(hg:Gl X x:=by rfl)(hd:(x==("__debug__":Str))=false:=by decide):PE X (.Name x pos) (Zb Z (Za (.str y))):=
 (Zl6 (v:=.str y) hg hm ⟨t,rfl⟩ hd).imp fun _ _ _ h=>Zc9 (fun _=>.str _) h
theorem Zna{x:Str}{y:Int}{t:Tok}(hm:X.mg x=some (.int y t))(hg:Gl X x:=by rfl)(hd:(x==("__debug__":Str))=false:=by decide):PE X (.Name x pos) (Zb Z (Za (.int y))):=
 (Zl6 (v:=.int y) hg hm ⟨t,rfl⟩ hd).imp fun _ _ _ h=>Zc9 (fun _=>.int _) h
theorem Zp8{op:Operator}{r:R2}{g:D→D→Option SV}(ho:OpR X (binaryOp op) r)(hp:Z8 Z r g)(ha:PE X a (Zb Z fa))(hb:PE X b (Zb Z fb)):PE X (.BinOp a op b pos) (Zb Z (binF g fa fb)):=(Zvn ho ha hb).imp fun _ _ _ h=>Zm1 hp h
theorem Za7(ha:PE X a (Zb Z fa))(hb:PE X b (Zb Z fb)):PE X (.BinOp a .Add b pos) (Zb Z (binF addD fa fb)):=Zp8 Zm7 Zwu ha hb
theorem Zea(ha:PE X a (Zb Z fa))(hb:PE X b (Zb Z fb)):PE X (.BinOp a .FloorDiv b pos) (Zb Z (binF Zfs fa fb)):=Zp8 Zsq Zwr ha hb
theorem Zcf(ha:PE X a (Zb Z fa))(hb:PE X b (Zb Z fb)):PE X (.BinOp a .Mod b pos) (Zb Z (binF modD fa fb)):=Zp8 Zvq Zz2 ha hb
theorem Zth{op:CmpOp}{r:R2}{g:D→D→Option SV}(ho:OpR X (compareOp op) r)(hp:Z8 Z r g)(ha:PE X a (Zb Z fa))(hb:PE X b (Zb Z fb))(hm:behindInMarks op b=false):PE X (.Compare a [op] [b] pos) (Zb Z (binF g fa fb)):=(Zsr ho ha hb hm).imp fun _ _ _ h=>Zm1 hp h
theorem Znb{op:CmpOp}{r:R2}{g:D→D→Option SV}(ho:OpR X (compareOp op) r)(hp:Z8 Z r g)(ha:PE X a (Zb Z fa))(hb:PE X b (Zb Z fb))(hm:behindInMarks op b=false):PT X (.Compare a [op] [b] pos) (Zaf Z (Zai (binF g fa fb))):=
 (Zss ho ha hb hm).imp fun σ H Q h=>by
  obtain⟨F,δ,own,rv,δ',s,e,k⟩:=Zm3 h
  exact Zm1 hp ⟨F,δ,own,rv,δ',s,e,k⟩
theorem t_lt(ha:PE X a (Zb Z fa))(hb:PE X b (Zb Z fb)):PT X (.Compare a [.Lt] [b] pos) (Zaf Z (Zai (binF ltD fa fb))):=Znb Zzf p_lt ha hb (Zgm _)
theorem Zw1(ha:PE X a (Zb Z fa))(hb:PE X b (Zb Z fb)):PT X (.Compare a [.Is] [b] pos) (Zaf Z (Zai (binF isND fa fb))):=Znb Zvt Zz3 ha hb (Zgm _)
theorem Znc{f:FT}(ha:PT X a (Zaf Z f)):PW X (.BoolOp .Or [a] pos) (Zaf Z f):=Zvd ha
theorem w_or{f g:FT}{rest:List Expr}(ha:PT X a (Zaf Z f))(hb:PW X (.BoolOp .Or (b::rest) pos) (Zaf Z g)):PW X (.BoolOp .Or (a::b::rest) pos) (Zaf Z (orF f g)):=(Zzd ha hb).imp fun _ _ _ h=>l_or h
theorem Zg6{f:FT}(ha:PT X a (Zaf Z f)):PT X (.UnaryOp .Not a pos) (Zaf Z (notF f)):=(Zve ha).imp fun _ _ _ h=>Zzu h
theorem Zft(h:PE X a (Zb Z fa))(he:∀whole,isTrue a X.env whole=(do let v←whole;standAt a.pos;holding [v] (truthy v)):=by intro _;rfl):PT X a (Zaf Z (Zai fa)):=(Zvc h he).imp fun _ _ _ h=>Zs5 h
theorem Zti{op:BoolOp}(h:PE X a (Zb Z fa)):PE X (.BoolOp op [a] pos) (Zb Z fa):=Zvg h
theorem Zp9{rest:List Expr}(ha:PE X a (Zb Z fa))(hb:PE X (.BoolOp .And (b::rest) pos) (Zb Z fb)):PE X (.BoolOp .And (a::b::rest) pos) (Zb Z (andV fa fb)):=(Zvh ha hb).imp fun _ _ _ h=>Zwh h
theorem e_if{t:FT}(hc:PT X c (Zaf Z t))(ha:PE X a (Zb Z fa))(hb:PE X b (Zb Z fb)):PE X (.IfExp c a b pos) (Zb Z (ifF t fa fb)):=(Zpl hc ha hb).imp fun _ _ _ h=>l_if h
theorem Zag:PA X [] (Zc8 Z Zi):=Zdy.imp fun _ _ _ h=>Zpz h
theorem Zj{es:List Expr}{fr:FA}(ha:PE X a (Zb Z fa))(hr:PA X es (Zc8 Z fr))(hs:starEach (a::es) X.env=(false,eval a X.env)::starEach es X.env:=by rfl):PA X (a::es) (Zc8 Z (Zc fa fr)):=(Zba ha hr hs).imp fun _ _ _ h=>Zmz h
theorem Zcg:PA X [] (Zay Z Zs):=Zdy.imp fun _ _ _ h=>Zm2 h
theorem Zak{es:List Expr}{fr:FD}(ha:PE X a (Zb Z fa))(hr:PA X es (Zay Z fr))(hs:starEach (a::es) X.env=(false,eval a X.env)::starEach es X.env:=by rfl):PA X (a::es) (Zay Z (Zh fa fr)):=(Zba ha hr hs).imp fun _ _ _ h=>Ze7 h
theorem Ztj{es:List Expr}{fd:FD}{k:Nat}(h:PA X es (Zay Z fd)):PE X (.Tuple es k pos) (Zb Z (tupF fd)):=(Zvw h).imp fun _ _ _ h=>Zzs h
theorem Zg7{es:List Expr}{fd:FD}(h:PA X es (Zay Z fd)):PE X (.List es pos) (Zb Z (lstF fd)):=(Zvx h).imp fun _ _ _ h=>Zzt h
theorem Zjx:PO X none (Zcz Z Ze8):=fun pins s σ H Q I h=>Zst pins s σ H Q I (Zp5 h)
theorem Ze9(ha:PE X a (Zb Z fa)):PO X (some a) (Zcz Z (Zg3 fa)):=fun pins s σ H Q I h=>Zsu ha pins s σ H Q I (Zwv h)
theorem e_sl{lo hi:Option Expr}{fl fh:FO}{p2:Pos}(ha:PE X a (Zb Z fa))(hl:PO X lo (Zcz Z fl))(hh:PO X hi (Zcz Z fh)):PE X (.Subscript a (.Slice lo hi none p2) pos) (Zb Z (slF slD fa fl fh)):=
 (Zps (Zsx.or Zwx) ha hl hh).imp fun _ _ _ h=>l_sl p_sl h
theorem Z6{k n:Nat}{f:Addr}{fd:FuncData}{ps:List Str}{g:List D→Option SV}{x:Str}{p:Pos}{es:List Expr}{fr:FA}(F:FnOk X.prog X.w X.K X.mg X.base CX0 k f fd ps (spOf X.K n g))(hr:Room k X.A)(hm:X.mg x=some (.ref f))(hk:PySem.W.keepIn X.K (.ref f)=true)(hb:Zax X.K fd ps [])
  (ha:PA X (a::es) (Zc8 Z fr)) (hg:Gl X x:=by rfl) (hdb:(x==("__debug__":Str))=false:=by decide) (he:starEach (a::es) X.env=(false,eval a X.env)::starEach es X.env:=by rfl) (hpl:(backTo pos (starEach es X.env)).any (·.1)=false:=by rfl):
  PE X (.Call (.Name x p) (a::es) [] pos) (Zb Z (Zau n g fr)):=(Zig F hr hg hm hk hb .nil Zs2 ha hdb he hpl).imp fun _ _ _ h=>Zwf h
theorem Znd{id:String}{r:List V→Hp→VK→Prop}{g:List D→Option SV}{x:Str}{p:Pos}{es:List Expr}{fr:FA}(hc:Zcu X (.builtin id) r)(hp:Zfp Z r g)(hm:X.mg x=none)(hv:bootBuiltins x=some (.builtin id))(ha:PA X (a::es) (Zc8 Z fr))(hg:Gl X x:=by rfl)(hn:x≠"__name__":=by decide)(hdb:(x==("__debug__":Str))=false:=by decide)
  (he:starEach (a::es) X.env=(false,eval a X.env)::starEach es X.env:=by rfl) (hpl:(backTo pos (starEach es X.env)).any (·.1)=false:=by rfl):PE X (.Call (.Name x p) (a::es) [] pos) (Zb Z (Zda g fr)):=(Zjq hc hg hm hv ha hn hdb he hpl).imp fun _ _ _ h=>Zm0 hp h
theorem Ztk{T:String}{r:List V→Hp→VK→Prop}{g:List D→Option SV}{x:Str}{p:Pos}{es:List Expr}{fr:FA}(hc:Zcu X (.type T) r)(hp:Zfp Z r g)(hm:X.mg x=none)(hv:bootBuiltins x=some (.type T))(ha:PA X (a::es) (Zc8 Z fr))(hg:Gl X x:=by rfl)(hn:x≠"__name__":=by decide)(hdb:(x==("__debug__":Str))=false:=by decide)
  (he:starEach (a::es) X.env=(false,eval a X.env)::starEach es X.env:=by rfl) (hpl:(backTo pos (starEach es X.env)).any (·.1)=false:=by rfl):PE X (.Call (.Name x p) (a::es) [] pos) (Zb Z (Zda g fr)):=(Zmj hc hg hm hv ha hn hdb he hpl).imp fun _ _ _ h=>Zm0 hp h
theorem Zw2{p:Pos}(hm:X.mg "int"=none)(ha:PE X a (Zb Z fa))(hg:Gl X "int":=by rfl)(he:starEach [a] X.env=(false,eval a X.env)::starEach [] X.env:=by rfl)(hpl:(backTo pos (starEach [] X.env)).any (·.1)=false:=by rfl):PE X (.Call (.Name "int" p) [a] [] pos) (Zb Z (Zda intD (Zc fa Zi))):=
 Ztk Zmf Zz6 hm boot_int (Zj ha Zag he) hg (by decide) (by decide) he hpl
theorem Zne{x:Str}{c:String}{p p2:Pos}(hm:X.mg "isinstance"=none)(hmc:X.mg x=none)(hv:bootBuiltins x=some (.type c))(hk:∀d:D,d.isExc=false→PySem.W.kitOne X.K (.type d.pyTy) (.type c)=some (d.pyTy==c|| (c=="int" &&d.pyTy=="bool")))(ha:PE X a (Zb Z fa))(hg:Gl X "isinstance":=by rfl)(hgc:Gl X x:=by rfl)
  (hn:x≠"__name__":=by decide) (hdb:(x==("__debug__":Str))=false:=by decide)
  (he:starEach [a,.Name x p2] X.env=(false,eval a X.env)::starEach [.Name x p2] X.env:=by rfl) (he2:starEach [.Name x p2] X.env=(false,eval (.Name x p2) X.env)::starEach [] X.env:=by rfl) (hpl:(backTo pos (starEach [.Name x p2] X.env)).any (·.1)=false:=by rfl):
  PE X (.Call (.Name "isinstance" p) [a,.Name x p2] [] pos) (Zb Z (unF (isiD c) fa)):=
 (Zjq Zp7 hg hm boot_isinstance (Zba ha (Zba (Zso (v:=.ty c) hgc hmc hv rfl hn hdb) Zdy he2) he) (by decide) (by decide) he hpl).imp fun σ H Q h=>by
  have h2:=l_un (Zz5 hk) h
  exact h2
theorem Ztl{op op':CmpOp}{r r':R2}{g g':D→D→Option SV}(ho:OpR X (compareOp op) r)(hp:Z8 Z r g)(ho':OpR X (compareOp op') r')(hp':Z8 Z r' g')(ha:PE X a (Zb Z fa))(hb:PE X b (Zb Z fb))(hc:PE X c (Zb Z fc))(hm:lastMarks [op,op'] [b,c]=false:=by with_unfolding_all rfl):
  PE X (.Compare a [op,op'] [b,c] pos) (Zb Z (Zm4 g g' fa fb fc)):=(Zpq ho ho' ha hb hc hm).imp fun _ _ _ h=>Zs6 hp hp' h
theorem Zb0(i:Nat){x:Str}(hN:X.N.Nodup)(hi:X.N[i]? =some x:=by rfl)(hx:Loc X.env.scope x:=by first|exact Or.inl rfl|exact Or.inr rfl)(hf:X.fn x=true∨X.env.scope.names.lookup x=some .local:=by first|exact .inl rfl|exact .inr rfl):PG X (.Name x pos) (Ze2 Z (Zq i)):=(Zl8 hN hi hx hf).imp fun _ _ _ _ h=>Zs7 h
theorem Zrx:PGs X [] (Zdk Z Zd5):=Zsp.imp fun _ _ _ _ h=>Zwm h
theorem Zfu{es:List Expr}{g:FG}{r:FGs}(h1:PG X a (Ze2 Z g))(h2:PGs X es (Zdk Z r))(hs:(assignEach (a::es) X.env).map (·.2)=assign a X.env::(assignEach es X.env).map (·.2):=by rfl):PGs X (a::es) (Zdk Z (Zao g r)):=(Zpo h1 h2 hs).imp fun _ _ _ _ h=>Zs8 h
theorem Zw3{es:List Expr}{k n:Nat}{g:FGs}(hc:X.calm=true)(h:PGs X es (Zdk Z g))(hn:(assignEach es X.env).length=n:=by rfl)(hst:(assignEach es X.env).findIdx? (·.1)=none:=by rfl):PG X (.Tuple es k pos) (Ze2 Z (Zdm n g)):=(Zvl hc h hn hst).imp fun _ _ _ _ h=>Zwn h
theorem Zqa{tg:Expr}{p:Pos}(hm:X.mg "range"=none)(ha:PE X a (Zb Z fa))(hg:Gl X "range":=by rfl)(hs:starEach [a] X.env=[(false,eval a X.env)]:=by rfl):PI X tg (.Call (.Name "range" p) [a] [] pos) (Zbr Z (rngI (Zc fa Zi))):=(Zma hg hm (Zj ha Zag hs) hs).imp fun _ _ _ h=>Zwo h
theorem Znf{N':List Str}{scope:Scope}{src:List BSrc}(kind:scope.kind= .function)(nocell:(scope.names.all fun y=>!(y.2== .cell))=true)(names:(scope.names.all fun y=>!(y.2== .local)|| (scope.names.lookup y.1==some .local))=true)
  (free:(scope.names.all fun y=>!(y.2== .free)|| (X.env.kindOf y.1==some .cell)|| (X.env.kindOf y.1==some .free))=true) (len:src.length=N'.length)
  (cap:((List.range src.length).all fun k=>match src[k]?,N'[k]? with
   |some (.cap j),some x=>(X.N[j]? ==some x)&&((X.env.kindOf x==some .cell)|| (X.env.kindOf x==some .free))&&(scope.names.lookup x==some .free)
   |some .acc,some x=>scope.names.lookup x==none
   |_,_=>true)=true):CompScope X N' scope src:=by
 have capk:∀(k:Nat) (q:BSrc) (x:Str),src[k]? =some q→N'[k]? =some x→(match some q,some x with
   |some (.cap j),some x=>(X.N[j]? ==some x)&&((X.env.kindOf x==some .cell)|| (X.env.kindOf x==some .free))&&(scope.names.lookup x==some .free)
   |some .acc,some x=>scope.names.lookup x==none
   |_,_=>true)=true:=fun k q x h1 h2=>by
  have hk:k<src.length:=(List.getElem?_eq_some_iff.mp h1).1
  have:=List.all_eq_true.mp cap k (List.mem_range.mpr hk)
  rw[h1,h2]at this
  exact this
 refine⟨kind,fun y hy e=>?_,fun y hy e=>?_,fun y hy e=>?_,len,fun k j x h1 h2=>?_,fun k x h1 h2=>?_⟩
 ·have:=List.all_eq_true.mp nocell y hy
  rw[e]at this;cases this
 ·have:=List.all_eq_true.mp names y hy
  rw[e]at this
  simpa using this
 ·have:=List.all_eq_true.mp free y hy
  rw[e]at this
  simpa using this
 ·have:=capk k (.cap j) x h1 h2
  simp only[Bool.and_eq_true,Bool.or_eq_true,beq_iff_eq]at this
  exact⟨this.1.1,this.1.2,this.2⟩
 ·have:=capk k .acc x h1 h2
  simpa using this
theorem Zz7{src:List BSrc}(k:Nat)(acc:src[k]? =some .acc)(uni:((List.range src.length).all fun i=>match src[i]? with
   |some .acc=>i==k
   |_=>true)=true):SrcOk src k:=⟨acc,fun i h=>by
  have hi:i<src.length:=(List.getElem?_eq_some_iff.mp h).1
  have:=List.all_eq_true.mp uni i (List.mem_range.mpr hi)
  rw[h]at this
  simpa using this⟩
theorem Zng(K:PySem.W.Frag):∀d:D,d.isExc=false→PySem.W.kitOne K (.type d.pyTy) (.type "str")=some (d.pyTy=="str" || ("str"=="int" &&d.pyTy=="bool")):=by intro d h;cases d<;> first| (cases h;done)|with_unfolding_all rfl
theorem Znh(K:PySem.W.Frag):∀d:D,d.isExc=false→PySem.W.kitOne K (.type d.pyTy) (.type "tuple")=some (d.pyTy=="tuple" || ("tuple"=="int" &&d.pyTy=="bool")):=by intro d h;cases d<;> first| (cases h;done)|with_unfolding_all rfl
theorem Zjy(K:PySem.W.Frag):∀d:D,d.isExc=false→PySem.W.kitOne K (.type d.pyTy) (.type "dict")=some (d.pyTy=="dict" || ("dict"=="int" &&d.pyTy=="bool")):=by intro d h;cases d<;> first| (cases h;done)|with_unfolding_all rfl
theorem xg{tg:Expr}{g:FG}(h:∀Z:Ent X.K,PG X tg (Ze2 Z g)):PG X tg (xG X.K g):=fun pins s σ H v u Q I r ⟨Z,q⟩=>h Z pins s σ H v u Q I r q
theorem xe{e:Expr}{f:FE}(h:∀Z:Ent X.K,PE X e (Zb Z f)):PE X e (xE X.K f):=fun pins s σ H Q I ⟨Z,q⟩=>h Z pins s σ H Q I q
theorem xt0:PTs X [] (xT X.K Zp1):=fun pins s σ H Q I ⟨Z,q⟩=>by
 obtain⟨F,δ,own,b,δ',sr,e,k⟩:=q
 cases e
 exact Zs3 pins s σ H Q I (k H F own (Same.refl H) (Same.refl F) sr)
theorem Zw4{N':List Str}{scope:Scope}{src:List BSrc}{k:Nat}{tg elt iter:Expr}{ifs:List Expr}{fi:FD}{g:FG}{tt:FT}{te:FE}(hc:X.calm=true)(S:CompScope X N' scope src)(So:SrcOk src k)(hk:k∉g.tch)(hi:PI X tg iter (Zbr Z fi))
  (hg:∀(C:Addr) (s₀:Shared) (H₀:Hp) (ex:List Addr),PG (X.block N' scope C s₀ H₀ ex) tg (xG X.K g)) (ht:∀(C:Addr) (s₀:Shared) (H₀:Hp) (ex:List Addr),PTs (X.block N' scope C s₀ H₀ ex) ifs (xT X.K tt)) (he:∀(C:Addr) (s₀:Shared) (H₀:Hp) (ex:List Addr),PE (X.block N' scope C s₀ H₀ ex) elt (xE X.K te))
  (hs:∀x,foldedSetIterable iter X.env x=pure x:=by intro _;rfl):PE X (.ListComp elt [⟨tg,iter,ifs,0⟩] scope pos) (Zb Z (Zta src k fi g tt te)):=(Zs4 hc S hi hg ht he hs).imp fun _ _ _ h=>Zwp So hk h
theorem Zeb:PSs X [] (Zy Z Zfq):=Zl7.imp fun _ _ _ h=>Zwi h
theorem Zf{st:Stmt}{rest:List Stmt}{f g:FS}(h1:PS X st (Zy Z f))(h2:PSs X rest (Zy Z g)):PSs X (st::rest) (Zy Z (seqF f g)):=(Zbl h1 h2).imp fun _ _ _ h=>Zwj h
theorem Zt{st:Stmt}{f:FS}(h:PS X st (Zy Z f)):PSs X [st] (Zy Z f):=Zie h
noncomputable def Zni:FS:=fun _=>none
theorem Znj{st:Stmt}:PS X st (Zy Z Zni):=Zpn.imp fun _ _ _ h=>by obtain⟨F,δ,own,fl,s,e,k⟩:=h;cases e
theorem Zbc(h:PE X a (Zb Z fa)):PS X (.Return (some a) pos) (Zy Z (retF fa)):=(Zrj h).imp fun _ _ _ h=>Zzw h
theorem s_if{t:FT}{f g:FS}{bt be:List Stmt}(hc:PT X c (Zaf Z t))(ha:PSs X bt (Zy Z f))(hb:PSs X be (Zy Z g)):PS X (.If c bt be pos) (Zy Z (ifS t f g)):=(Zvi hc ha hb).imp fun _ _ _ h=>Zzv h
theorem Zad(i:Nat){x:Str}{pos':Pos}(hN:X.N.Nodup)(he:PE X a (Zb Z fa))(hi:X.N[i]? =some x:=by rfl)(hx:Loc X.env.scope x:=by first|exact Or.inl rfl|exact Or.inr rfl)(hs:swapsWith a (some (.Name x pos')) pos.line X.env=pure false:=by rfl)(hf:X.fn x=true∨X.env.scope.names.lookup x=some .local:=by first|exact .inl rfl|exact .inr rfl):
  PS X (.Assign [.Name x pos'] a pos) (Zy Z (setF i fa)):=(Zrk hN hi hx he hs hf).imp fun _ _ _ h=>Zzx h
theorem Zg8{tg iter:Expr}{body:List Stmt}{fi:FD}{g:FG}{f:FS}(hp:PassesOwn (model X.prog X.w) X.A X.env X.xe)(hc:X.calm=true)(hi:PI X tg iter (Zbr Z fi))(hg:PG X tg (Ze2 Z g))(hb:PSs X body (Zy Z f))(hs:∀x,foldedSetIterable iter X.env x=pure x:=by intro _;rfl):
  PS X (.For tg iter body [] pos) (Zy Z (forF fi g f)):=(Zrl hp hc hi hg hb hs).imp fun _ _ _ h=>Zzz h
theorem Zz8(i:Nat){x:Str}{px apos cpos:Pos}(hb:PE X b (Zb Z fb))(hN:X.N[i]? =some x:=by rfl)(hv:Vis X.env.scope x:=by first|exact Or.inl rfl|exact Or.inr (Or.inl rfl)|exact Or.inr (Or.inr rfl))(hd:(x==("__debug__":Str))=false:=by decide)
  (hcd:(x==("__classdict__":Str))=false:=by decide) (hbase:attributeBase (.Name x px) "append" X.env (eval (.Name x px) X.env)=eval (.Name x px) X.env:=by rfl)
  (hfew:((backTo cpos (starEach [b] X.env)).all (fun x=>!x.1)&&(backToKw cpos (keywordEach [] X.env)).all (fun x=>x.1.isSome)&&decide ([b].length+([]:List Keyword).length+(if([]:List Keyword).isEmpty then 0 else 1)<30))=true:=by rfl)
  (hline:(apos.endLine==cpos.line)=true:=by rfl) (hs:starEach [b] X.env=(false,eval b X.env)::starEach [] X.env:=by rfl) (hpl:(backTo cpos (starEach [] X.env)).any (·.1)=false:=by rfl) (hsw:swapsWith (.Call (.Attribute (.Name x px) "append" apos) [b] [] cpos) none pos.line X.env=pure false:=by rfl):
  PS X (.Expr (.Call (.Attribute (.Name x px) "append" apos) [b] [] cpos) pos) (Zy Z (appF i fb)):=
 (Zif (Zgy PySem.F.plainAttrs_list PySem.F.slot_list_append PySem.F.type_list_append Zd0 (Ze5 (i:=i) hN hv hd hcd) (Zba hb Zdy hs) hbase hfew hline hs hpl) hsw).imp fun _ _ _ h=>Zz0 h
end
@[simp] noncomputable def Zb1(f:FS)(n:Nat)(ds:List D):Option SV:=match f (Zdl n ds)with
 |some (.rt sv)=>some sv
 |some (.nx _)=>some (.fz .non)
 |_=>none
theorem Zqb{N:List Str}{n:Nat}{f:FS}{vs:List V}{H:Hp}{Q:VK}{E:XK}(h:spOf K n (Zb1 f N.length) vs H Q E):∃F,Zy (ent H F:Ent K) f {nx:=fun _ H'=>Q .non H',rt:=Q} (L2.start N vs) H:=by
 obtain⟨F,ds,sv,le,r,hn,e,k⟩:=h
 unfold Zb1 at e
 split at e
 ·rename_i sw hf
  cases e
  exact⟨F,F,_,_,.rt sv,Zfr (N:=N) le r,hf,fun v H' F' ns a b c d e' nd ok=>k v H' F' ns d a b c e' nd ok⟩
 ·rename_i δ hf
  cases e
  exact⟨F,F,_,_,.nx δ,Zfr (N:=N) le r,hf,fun σ' H' F' own' a s'=>k .non H' F' [] s'.old a s'.le s'.fro (.fz .non) List.nodup_nil fun _ h=>(nomatch h)⟩
 ·cases e
noncomputable def Z3j(K:PySem.W.Frag):Sp:=fun vs H Q _=>∃(a:Addr) (ns:List Int),vs=[.ref a]∧SqL K H a (ns.map V.int)∧ns.length≤63∧∀H',Q (.bl true) H'
theorem Zjz{F:Hp}:∀ns:List Int,Reps K F (ns.map D.int) (ns.map V.int)
 | []=>.nil
 |n::r=>.cons (.int n) (Zjz r)
end DL
namespace DL
open PySem PySem.Spec PyProof.Rows L2
variable{K:PySem.W.Frag}
@[simp] noncomputable def Zle(f:D→D→Option Bool):List D→List D→Option Bool
 |x::xs,y::ys=>(f x y).bind fun b=>(Zle f xs ys).bind fun c=>some (b&&c)
 |_,_=>some true
@[simp] noncomputable def Zec(f:D→D→Option Bool):D→D→Option Bool
 | .lst xs,.lst ys=>if xs.length=ys.length then Zle f xs ys else some false
 | .tup xs,.tup ys=>(Zle f xs ys).bind fun b=>some (b&&decide (xs.length=ys.length))
 | .lst _,.tup _=>some false
 | .tup _,.lst _=>some false
 |d1,d2=>eqS d1 d2
@[simp] noncomputable def eqN:Nat→D→D→Option Bool
 |0=>fun _ _=>none
 |n+1=>Zec (eqN n)
theorem Zfv{F H:Hp}{d1 d2:D}{x y:V}{b:Bool}(e:eqS d1 d2=some b)(r1:RepN K F H d1 x)(r2:RepN K F H d2 y):Z7 x=true∧Z7 y=true∧b=eqV x y:=by
 unfold eqS at e
 split at e<;> cases e<;> (first|obtain rfl:=r1.non|obtain rfl:=r1.int|obtain rfl:=r1.bl|obtain rfl:=r1.str)<;> (first|obtain rfl:=r2.non|obtain rfl:=r2.int|obtain rfl:=r2.bl|obtain rfl:=r2.str)<;> refine⟨rfl,rfl,?_⟩<;> first|rfl|simp[eqV]
section
variable{X:Cx}{pins:List (Addr×Obj)}{σ:L2.St}{F H:Hp}{s:Shared}
theorem Zqc{x y:V}{v:Value}(rx:RelV x v)(ry:RelV y v)(fx:Z7 x=true)(fy:Z7 y=true):eqV x y=true:=by
 cases x with
 |non=>cases rx;cases y with
  |non=>rfl
  |bl b=>cases ry
  |int b=>obtain⟨t,e⟩:=ry;cases e
  |str b=>obtain⟨t,e⟩:=ry;cases e
  |_=>cases fy
 |bl a=>cases rx;cases y with
  |non=>cases ry
  |bl b=>cases ry;simp[eqV]
  |int b=>obtain⟨t,e⟩:=ry;cases e
  |str b=>obtain⟨t,e⟩:=ry;cases e
  |_=>cases fy
 |int a=>obtain⟨t,rfl⟩:=rx;cases y with
  |non=>cases ry
  |bl b=>cases ry
  |int b=>obtain⟨t,e⟩:=ry;cases e;simp[eqV]
  |str b=>obtain⟨t,e⟩:=ry;cases e
  |_=>cases fy
 |str a=>obtain⟨t,rfl⟩:=rx;cases y with
  |non=>cases ry
  |bl b=>cases ry
  |int b=>obtain⟨t,e⟩:=ry;cases e
  |str b=>obtain⟨t,e⟩:=ry;cases e;simp[eqV]
  |_=>cases fy
 |_=>cases fx
theorem Zlf{h:Heap}{a:Addr}{i1 i2:Array Value}(h1:h.IsList a i1)(h2:h.IsList a i2):i1=i2:=by
 obtain⟨o,e1,c1,n1,d1⟩:=h1
 obtain⟨o2,e2,c2,n2,d2⟩:=h2
 rw[e1]at e2;cases e2
 rw[d1]at d2;cases d2;rfl
theorem Zix{h:Heap}{a:Addr}{i1 i2:Array Value}(h1:h.IsTuple a i1)(h2:h.IsTuple a i2):i1=i2:=by
 obtain⟨o,e1,c1,n1,d1⟩:=h1
 obtain⟨o2,e2,c2,n2,d2⟩:=h2
 rw[e1]at e2;cases e2
 rw[d1]at d2;cases d2;rfl
theorem Znk{f:D→D→Option Bool}(hf:∀d1 d2 b x y v,Rep X.K F d1 x→RelV x v→Rep X.K F d2 y→RelV y v→f d1 d2=some b→b=true){xs:List D}:∀{ys:List D} {vs ws:List V} {us:List Value} {b:Bool},Reps X.K F xs vs→Vals vs us→Reps X.K F ys ws→Vals ws us→Zle f xs ys=some b→b=true:=by
 induction xs with
 |nil=>intro ys vs ws us b _ _ _ _ e;cases e;rfl
 |cons x xs ih=>
  intro ys vs ws us b r1 v1 r2 v2 e
  cases r1 with
  |cons h1 t1=>
   cases v1 with
   |cons a1 w1=>
    cases v2 with
    |cons a2 w2=>
     cases r2 with
     |cons h2 t2=>
      obtain⟨b,e1,e2⟩:=Option.bind_eq_some_iff.mp e
      obtain⟨c,e3,e4⟩:=Option.bind_eq_some_iff.mp e2
      cases e4
      rw[hf _ _ _ _ _ _ h1 a1 h2 a2 e1,ih t1 w1 t2 w2 e3];rfl
theorem Znl(I:Inv X pins σ H s)(le:Same F H){f:D→D→Option Bool}(ih:∀(d1 d2:D) (b:Bool) (x y:V) (v:Value),Rep X.K F d1 x→RelV x v→Rep X.K F d2 y→RelV y v→f d1 d2=some b→b=true)(d1 d2:D)(b:Bool)(x y:V)(v:Value)(r1:Rep X.K F d1 x)(v1:RelV x v)(r2:Rep X.K F d2 y)(v2:RelV y v)(e:Zec f d1 d2=some b):b=true:=by
  unfold Zec at e
  split at e
  ·rename_i xs ys
   cases r1 with
   |lst q1 p1=>
   cases r2 with
   |lst q2 p2=>
   cases v1;cases v2
   obtain⟨i1,w1,l1,_⟩:=I.list (Zah le q1)
   obtain⟨i2,w2,l2,_⟩:=I.list (Zah le q2)
   have z:=Zlf l1.isList l2.isList
   have z:i1=i2:=by simpa using z
   subst z
   split at e
   ·exact Znk (ih) p1 w1 p2 w2 e
   ·rename_i hl
    have h1:=w1.length
    have h2:=w2.length
    have h3:=p1.length
    have h4:=p2.length
    exact absurd (by omega) hl
  ·rename_i xs ys
   cases r1 with
   |tup q1 p1=>
   cases r2 with
   |tup q2 p2=>
   cases v1;cases v2
   obtain⟨i1,w1,l1,_⟩:=I.tuple (Zat le (Zd4 q1))
   obtain⟨i2,w2,l2,_⟩:=I.tuple (Zat le (Zd4 q2))
   have z:=Zix l1 l2
   have z:i1=i2:=by simpa using z
   subst z
   obtain⟨c,e1,e2⟩:=Option.bind_eq_some_iff.mp e
   cases e2
   have h1:=w1.length
   have h2:=w2.length
   have h3:=p1.length
   have h4:=p2.length
   rw[Znk (ih) p1 w1 p2 w2 e1,decide_eq_true (by omega)];rfl
  ·cases r1 with
   |lst q1 p1=>
   cases r2 with
   |tup q2 p2=>
   cases v1;cases v2
   obtain⟨i1,w1,l1,_⟩:=I.list (Zah le q1)
   obtain⟨i2,w2,l2,_⟩:=I.tuple (Zat le (Zd4 q2))
   exact absurd rfl (SeqAt.ne_of_list_tuple (s:=s) l1.isList l2)
  ·cases r1 with
   |tup q1 p1=>
   cases r2 with
   |lst q2 p2=>
   cases v1;cases v2
   obtain⟨i1,w1,l1,_⟩:=I.tuple (Zat le (Zd4 q1))
   obtain⟨i2,w2,l2,_⟩:=I.list (Zah le q2)
   exact absurd rfl (SeqAt.ne_of_list_tuple (s:=s) l2.isList l1)
  ·obtain⟨f1,f2,rfl⟩:=Zfv (H:=H) e (RepN.of r1) (RepN.of r2)
   exact Zqc v1 v2 f1 f2
theorem Zj0{A:Around}{f:D→D→Option Bool}(hf:∀d1 d2 b x y v u,Rep X.K F d1 x→RelV x v→Rep X.K F d2 y→RelV y u→f d1 d2=some b→SeqAt.EqAt A s v u b){xs:List D}:∀{ys:List D} {vs ws:List V} {us zs:List Value} {b:Bool},Reps X.K F xs vs→Vals vs us→Reps X.K F ys ws→Vals ws zs→Zle f xs ys=some b→
  ∃e:Nat→Bool,(∀j (h1:j<us.length) (h2:j<zs.length),SeqAt.EqAt A s us[j] zs[j] (e j))∧(List.range (min us.length zs.length)).all e=b:=by
 induction xs with
 |nil=>
  intro ys vs ws us zs b r1 v1 _ _ e
  cases r1
  cases v1
  cases e
  exact⟨fun _=>true,fun j h1=>absurd h1 (Nat.not_lt_zero _),by rw[List.length_nil,Nat.zero_min];rfl⟩
 |cons x xs ih=>
  intro ys vs ws us zs b r1 v1 r2 v2 e
  cases r1 with
  |cons h1 t1=>
   cases v1 with
   |cons a1 w1=>
    cases v2 with
    |nil=>
     cases r2
     cases e
     exact⟨fun _=>true,fun j _ h2=>absurd h2 (Nat.not_lt_zero _),by rw[List.length_nil,Nat.min_zero];rfl⟩
    |cons a2 w2=>
     cases r2 with
     |cons h2 t2=>
      obtain⟨b,e1,e2⟩:=Option.bind_eq_some_iff.mp e
      obtain⟨c,e3,e4⟩:=Option.bind_eq_some_iff.mp e2
      cases e4
      obtain⟨g,g1,g2⟩:=ih t1 w1 t2 w2 e3
      refine⟨fun j=>Nat.casesOn j b g,fun j h1 h2=>?_,?_⟩
      ·cases j with
       |zero=>exact hf _ _ _ _ _ _ _ ‹_› a1 ‹_› a2 e1
       |succ j=>exact g1 j (Nat.lt_of_succ_lt_succ h1) (Nat.lt_of_succ_lt_succ h2)
      ·rw[List.length_cons,List.length_cons,Nat.succ_min_succ,List.range_succ_eq_map,List.all_cons,List.all_map,←g2]
       rfl
theorem rcN(I:Inv X pins σ H s)(le:Same F H){A:Around}{f:D→D→Option Bool}{d1 d2:D}{b:Bool}{x y:V}{v u:Value}
  (ih:∀d1 d2 b x y v u,Rep X.K F d1 x→RelV x v→Rep X.K F d2 y→RelV y u→f d1 d2=some b→SeqAt.EqAt A.in1 s v u b) (r1:RepN X.K F H d1 x) (v1:RelV x v) (r2:RepN X.K F H d2 y) (v2:RelV y u)
  (e:Zec f d1 d2=some b) (hu:A.units<cLine) (hr:Z7 x=false∨Z7 y=false):(∃a c,v= .ref a∧u= .ref c)∧SeqAt.RcAt A s v u b∧SeqAt.RcNeAt A s v u (!b):=by
 unfold Zec at e
 split at e
 ·obtain⟨a1,vs1,rfl,q1,p1⟩:=r1.lst le
  obtain⟨a2,vs2,rfl,q2,p2⟩:=r2.lst le
  cases v1;cases v2
  obtain⟨i1,w1,l1,_⟩:=I.list q1
  obtain⟨i2,w2,l2,_⟩:=I.list q2
  have h1:=w1.length
  have h2:=w2.length
  have h3:=p1.length
  have h4:=p2.length
  refine⟨⟨_,_,rfl,rfl⟩,?_⟩
  split at e
  ·rename_i hl
   obtain⟨g,g1,g2⟩:=Zj0 ih p1 w1 p2 w2 e
   have hm:min i1.length i2.length=i1.toArray.size:=by simp;omega
   rw[hm]at g2
   subst g2
   have hz:i1.toArray.size=i2.toArray.size:=by simp;omega
   exact⟨SeqAt.RcAt.lists l1.isList l2.isList hz hu (fun j j1 j2=>by simpa using g1 j (by simpa using j1) (by simpa using j2)),SeqAt.RcNeAt.lists l1.isList l2.isList hz hu (fun j j1 j2=>by simpa using g1 j (by simpa using j1) (by simpa using j2))⟩
  ·rename_i hl
   cases e
   have hz:(i1.toArray.size !=i2.toArray.size)=true:=by simp;omega
   exact⟨SeqAt.RcAt.lists_lengths l1.isList l2.isList hz hu,SeqAt.RcNeAt.lists_lengths l1.isList l2.isList hz hu⟩
 ·rename_i xs ys
  obtain⟨a1,vs1,rfl,q1,p1⟩:=r1.tup le
  obtain⟨a2,vs2,rfl,q2,p2⟩:=r2.tup le
  cases v1;cases v2
  obtain⟨i1,w1,l1,_⟩:=I.tuple q1
  obtain⟨i2,w2,l2,_⟩:=I.tuple q2
  have h1:=w1.length
  have h2:=w2.length
  have h3:=p1.length
  have h4:=p2.length
  obtain⟨c,e1,e2⟩:=Option.bind_eq_some_iff.mp e
  cases e2
  refine⟨⟨_,_,rfl,rfl⟩,?_⟩
  obtain⟨g,g1,g2⟩:=Zj0 ih p1 w1 p2 w2 e1
  subst g2
  have e3:((List.range (min i1.length i2.length)).all g&&decide (xs.length=ys.length))=((List.range (min i1.toArray.size i2.toArray.size)).all g&&i1.toArray.size==i2.toArray.size):=by
   have:(i1.toArray.size==i2.toArray.size)=decide (xs.length=ys.length):=by
    rw[List.size_toArray,List.size_toArray,←h1,←h2,←h3,←h4];rfl
   rw[this];simp
  rw[e3]
  exact⟨SeqAt.RcAt.tuples l1 l2 hu (fun j j1 j2=>by simpa using g1 j (by simpa using j1) (by simpa using j2)),SeqAt.RcNeAt.tuples l1 l2 hu (fun j j1 j2=>by simpa using g1 j (by simpa using j1) (by simpa using j2))⟩
 ·obtain⟨a1,vs1,rfl,q1,p1⟩:=r1.lst le
  obtain⟨a2,vs2,rfl,q2,p2⟩:=r2.tup le
  cases v1;cases v2
  cases e
  obtain⟨i1,w1,l1,_⟩:=I.list q1
  obtain⟨i2,w2,l2,_⟩:=I.tuple q2
  exact⟨⟨_,_,rfl,rfl⟩,SeqAt.RcAt.list_tuple l1.isList l2 hu,SeqAt.RcNeAt.list_tuple l1.isList l2 hu⟩
 ·obtain⟨a1,vs1,rfl,q1,p1⟩:=r1.tup le
  obtain⟨a2,vs2,rfl,q2,p2⟩:=r2.lst le
  cases v1;cases v2
  cases e
  obtain⟨i1,w1,l1,_⟩:=I.tuple q1
  obtain⟨i2,w2,l2,_⟩:=I.list q2
  exact⟨⟨_,_,rfl,rfl⟩,SeqAt.RcAt.tuple_list l1 l2.isList hu,SeqAt.RcNeAt.tuple_list l1 l2.isList hu⟩
 ·obtain⟨f1,f2,_⟩:=Zfv e r1 r2
  rcases hr with hr|hr
  ·rw[f1]at hr;cases hr
  ·rw[f2]at hr;cases hr
noncomputable def rEqN(K:PySem.W.Frag)(neg:Bool):R2:=fun x y H Q=>∃F d1 d2 b,Same F H∧RepN K F H d1 x∧RepN K F H d2 y∧eqN 48 d1 d2=some b∧(Z7 x=false∨Z7 y=false)∧Q (.bl (if neg then !b else b)) H
end
@[simp] noncomputable def D.isFlat:D→Bool
 | .non=>true| .bl _=>true| .int _=>true| .str _=>true|_=>false
@[simp] noncomputable def eqX(d1 d2:D):Option SV:=if d1.isFlat=true∧d2.isFlat=true then eqD d1 d2 else(eqN 48 d1 d2).bind fun b=>some (.fz (.bl b))
@[simp] noncomputable def neX(d1 d2:D):Option SV:=if d1.isFlat=true∧d2.isFlat=true then neD d1 d2 else(eqN 48 d1 d2).bind fun b=>some (.fz (.bl !b))
theorem Zfa{F H:Hp}{d:D}{x:V}(r:RepN K F H d x)(h:d.isFlat=false):Z7 x=false:=by
 obtain⟨sv,ns,e,n,sh,hp⟩:=r
 cases sh with
 |fz r=>cases e;cases r<;> first|rfl|cases h
 |ol r=>rfl
 |oK e' r=>rfl
 |oT kb e' r=>rfl
 |oN e' r=>rfl
 |oL _ r=>rfl
 |oQ e' r=>rfl
section
variable{Z:Ent K}
@[simp] noncomputable def negD:D→Option SV
 | .int i=>some (.fz (.int (-i)))
 |_=>none
end
section
variable{X:Cx}{Z:Ent X.K}{a b c:Expr}{fa fb fc:FE}{pos:Pos}
end
end DL
namespace L2
open PySem PySem.Spec PyProof.Rows
section
variable{X:Cx}{tg:Expr}
noncomputable def Its(z:Str):It:=⟨fun i _=>i<z.length,fun i H x H'=>H'=H∧∃c,z.cps[i]? =some c∧x= .str ⟨#[c]⟩,fun i _=>z.length≤i⟩
theorem Znm{P:Program}{w:World}{K:PySem.W.Frag}{tg:Expr}(z:Str)(t:Tok)(it:Addr):Turn P w K tg (Its z) [it] it (fun i h=>h.IsStrIter it (strIterType z) z t i)where
 mem:=by simp
 obj:=fun i h st b hb=>by
  have e:b=it:=by simpa using hb
  subst e
  obtain⟨o,e,c,d⟩:=st
  exact⟨o,e,fun v q=>by rw[d]at q;cases q⟩
 keep:=fun i h h' st k=>by
  obtain⟨o,e,c,d⟩:=st
  exact⟨o,k it (by simp) o e,c,d⟩
 item:=by
  intro X hP hw hK hc i pins s σ H E I hf st hg
  subst hP hw hK
  obtain⟨f0,f1,f2,f3,f4,f5⟩:=hf it (by simp)
  have hlt:i<z.cps.size:=hg
  have hx:z.cps[i]? =some z.cps[i]:=by simp[hlt]
  have fin:∀h',h'.IsStrIter it (strIterType z) z t (i+1)→Heap.SameBut it s.heap h'→∃u,some (Value.str ⟨#[z.cps[i]]⟩ s.toks)=some u∧wpAny (model X.prog X.w) X.A (letOwnedTupleGo tg (.ref it) u) (fun _ s2=>∃x H',Inv X pins σ H' s2∧RelV x u∧(Its z).yld i H x H'∧s2.heap.IsStrIter it (strIterType z) z t (i+1)∧∀b∈[it],H' b=none) E {s with heap:=h',toks:=s.toks+1}:=fun h' st' sb=>by
   have I1:Inv X pins σ H {s with heap:=h',toks:=s.toks+1}:=I.turned (t':=s.toks+1) (fun b o hb q=>(sb.2 b hb).trans q) f0 f1 f3 f4 f5
   obtain⟨o,e,c,d⟩:=id st'
   have hn:["enumerate","zip","dict_itemiterator","dict_reverseitemiterator","odict_iterator","itertools.zip_longest","itertools.pairwise"].contains (strIterType z)=false:=by
    unfold strIterType
    split<;> decide
   exact⟨_,rfl,Zk5 (s:={s with heap:=h',toks:=s.toks+1}) e c d hn ⟨.str ⟨#[z.cps[i]]⟩,H,I1,⟨_,rfl⟩,⟨rfl,_,hx,rfl⟩,st',fun b hb=>(hf b hb).1⟩⟩
  cases ha:z.cps.all (· <128)with
  |false=>
   have et:strIterType z="str_iterator":=by unfold strIterType;rw[ha];rfl
   rw[et]at st fin
   rw[et]
   exact wpAny_pyNext_wide_item st hx fin
  |true=>
   have et:strIterType z="str_ascii_iterator":=by unfold strIterType;rw[ha];rfl
   rw[et]at st fin
   rw[et]
   exact wpAny_pyNext_ascii_item st hx fin
 done:=by
  intro X hP hw hK hc i pins s σ H E I hf st hg
  subst hP hw hK
  obtain⟨f0,f1,f2,f3,f4,f5⟩:=hf it (by simp)
  have hge:z.cps.size≤i:=hg
  have hx:z.cps[i]? =none:=by simp[hge]
  cases ha:z.cps.all (· <128)with
  |false=>
   have et:strIterType z="str_iterator":=by unfold strIterType;rw[ha];rfl
   rw[et]at st
   exact wpAny_pyNext_wide_end (I.ok.hd hc) st hx fun h' eb=>⟨rfl,I.turned (t':=s.toks) (fun b o hb q=>eb b o hb q) f0 f1 f3 f4 f5⟩
  |true=>
   have et:strIterType z="str_ascii_iterator":=by unfold strIterType;rw[ha];rfl
   rw[et]at st
   exact wpAny_pyNext_ascii_end (I.ok.hd hc) st hx fun h' eb=>⟨rfl,I.turned (t':=s.toks) (fun b o hb q=>eb b o hb q) f0 f1 f3 f4 f5⟩
 self:=fun _ _ _ _ _ st h=>by
  cases ha:z.cps.all (· <128)with
  |false=>
   have et:strIterType z="str_iterator":=by unfold strIterType;rw[ha];rfl
   rw[et]at st
   exact wpAny_pyIter_striter_wide st h
  |true=>
   have et:strIterType z="str_ascii_iterator":=by unfold strIterType;rw[ha];rfl
   rw[et]at st
   exact wpAny_pyIter_striter_ascii st h
noncomputable def iAny(K:PySem.W.Frag)(tl:TE):TI:=fun σ H R=>tl σ H fun x H1=>(∃a,x= .ref a∧(∃xs,SqL K H1 a xs)∧R (Itl K a) H1)∨(∃a,x= .ref a∧(∃xs,SqT K H1 a xs)∧R (Itt K a) H1)∨(∃z,x= .str z∧R (Its z) H1)
theorem Zw5{l:Expr}{tl:TE}(hl:PE X l tl):PI X tg l (iAny X.K tl):=by
 intro pins s σ H R I h
 refine thn (hl pins s σ H _ I h) fun v s1 zq9=>?_
 obtain⟨x,H1,I1,r1,q1⟩:=zq9
 rcases q1 with⟨a,e,⟨xs,hq⟩,q⟩|⟨a,e,⟨xs,hq⟩,q⟩|⟨z,e,q⟩
 ·subst e
  cases r1
  obtain⟨its,rv,p,hz⟩:=I1.list hq
  refine wpAny_pyIter_list p.isList ?_
  refine⟨s1.heap.objs.size,[s1.heap.objs.size],_,_,H1,rfl,I1.kept (t':=s1.toks) fun b o e=>Heap.get?_push_of_some _ e,Zl9 a _,⟨_,Heap.get?_push_size _ rfl,rfl,rfl⟩,fun b hb=>?_,q⟩
  have e:b=s1.heap.objs.size:=by simpa using hb
  subst e
  exact I1.fpOk (Nat.le_refl _) (I1.hok.fresh (Nat.le_refl _))
 ·subst e
  cases r1
  obtain⟨its,rv,p,hz⟩:=I1.tuple hq
  refine wpAny_pyIter_tuple (show s1.heap.IsTuple a its.toArray from p) ?_
  refine⟨s1.heap.objs.size,[s1.heap.objs.size],_,_,H1,rfl,I1.kept (t':=s1.toks) fun b o e=>Heap.get?_push_of_some _ e,Zk6 a _,⟨_,Heap.get?_push_size _ rfl,rfl,rfl⟩,fun b hb=>?_,q⟩
  have e:b=s1.heap.objs.size:=by simpa using hb
  subst e
  exact I1.fpOk (Nat.le_refl _) (I1.hok.fresh (Nat.le_refl _))
 ·subst e
  obtain⟨t,rfl⟩:=r1
  refine wpAny_pyIter_strU ?_
  refine⟨s1.heap.objs.size,[s1.heap.objs.size],_,_,H1,rfl,I1.kept (t':=s1.toks) fun b o e=>Heap.get?_push_of_some _ e,Znm z t _,⟨_,Heap.get?_push_size _ rfl,rfl,rfl⟩,fun b hb=>?_,q⟩
  have e:b=s1.heap.objs.size:=by simpa using hb
  subst e
  exact I1.fpOk (Nat.le_refl _) (I1.hok.fresh (Nat.le_refl _))
theorem Zed:∀l:List (Str×Tok),Vals ((l.map (·.1)).map V.str) (strValues l)
 | []=>.nil
 | (x,t)::r=>.cons ⟨t,rfl⟩ (Zed r)
noncomputable def Zry:V→List V→Hp→VK→Prop:=fun x xs H Q=>∃a b,x= .str a∧xs=[.str b]∧(b.length==0)=false∧a.length≤sizeLine∧(Txt.split a b).length≤sizeLine∧∀p,H p=none→Q (.ref p) (upd H p (.lst ((Txt.split a b).map V.str)))
theorem Zqd:MtR X "str.split" Zry:=by
 intro pins s σ H x xs v us Q I rx rs h
 obtain⟨a,b,rfl,rfl,hb,ha,hz,q⟩:=h
 obtain⟨t,rfl⟩:=rx
 obtain⟨u,rfl,ru⟩:=Zcv rs
 obtain⟨t',rfl⟩:=ru
 have one:Txt.split a b=[a]→∀tk,EP X pins σ Q (.ref s.heap.objs.size) {s with toks:=tk,heap:=s.heap.push {cls:=.type "list",data:=.seq #[.str a t]}}:=fun e tk=>by
  rw[e]at q
  exact⟨.ref _,_,I.lnew (t':=tk) (ys:=[.str a]) (its:=[.str a t]) (.cons ⟨t,rfl⟩ .nil) (by show 1≤sizeLine;decide),rfl,q _ I.fresh⟩
 cases h1:(decide (a.length<b.length)||decide (Builtin.Str.strKind a<Builtin.Str.strKind b))
 ·cases hf:(Builtin.Str.occurrences a b 0 a.length (a.length+1)).isEmpty
  ·have e:Txt.split a b=Builtin.Str.partsBetween a (Builtin.Str.occurrences a b 0 a.length (a.length+1)) b.length:=(if_neg (ne_true_of_eq_false h1)).trans (if_neg (ne_true_of_eq_false hf))
   rw[e]at hz q
   refine call_meets F.slot_str_split (typeIs_str _ _ _) F.entry_str_split (F.args_str_split_2 _ _) (meets_str_split_sep a b t t' h1 hb hf ha hz) ?_
   rw[strsFrom_eq]
   have hv:=Zed (numbered s.toks (Builtin.Str.partsBetween a (Builtin.Str.occurrences a b 0 a.length (a.length+1)) b.length))
   rw[numbered_texts]at hv
   exact⟨.ref _,_,I.lnew (t':=_) hv (by rw[List.length_map];exact hz),rfl,q _ I.fresh⟩
  ·exact call_meets F.slot_str_split (typeIs_str _ _ _) F.entry_str_split (F.args_str_split_2 _ _) (meets_str_split_not_found a b t t' h1 hb hf) (one ((if_neg (ne_true_of_eq_false h1)).trans (if_pos hf)) s.toks)
 ·exact call_meets F.slot_str_split (typeIs_str _ _ _) F.entry_str_split (F.args_str_split_2 _ _) (meets_str_split_cannot_occur a b t t' h1) (one (if_pos h1) s.toks)
noncomputable def Zw6:V→List V→Hp→VK→Prop:=fun x xs H Q=>∃a b,x= .str a∧xs=[.str b]∧(b.length==0)=false∧a.length≤sizeLine∧∀p,H p=none→Q (.ref p) (upd H p (.tup [.str (Txt.partition a b).1,.str (Txt.partition a b).2.1,.str (Txt.partition a b).2.2]))
theorem Inv.tnew{pins:List (Addr×Obj)}{σ:L2.St}{H:Hp}{s:Shared}{ys:List V}{its:List Value}{t':Nat}(I:Inv X pins σ H s)(hv:Vals ys its)(hz:ys.length≤sizeLine):
  Inv X pins σ (upd H s.heap.objs.size (.tup ys)) {s with heap:=s.heap.push {cls:=.type "tuple",data:=.seq its.toArray},toks:=t'}:=
 I.laid (fun _ _ q=>Heap.get?_push_of_some _ q) (Nat.le_refl _) ⟨hz,its,hv,⟨_,Heap.get?_push_size _ rfl,rfl,_,rfl⟩⟩
theorem Ztm:MtR X "str.partition" Zw6:=by
 intro pins s σ H x xs v us Q I rx rs h
 obtain⟨a,b,rfl,rfl,hb,ha,q⟩:=h
 obtain⟨t,rfl⟩:=rx
 obtain⟨u,rfl,ru⟩:=Zcv rs
 obtain⟨t',rfl⟩:=ru
 refine call_meets F.slot_str_partition (typeIs_str _ _ _) F.entry_str_partition (F.args_str_partition_2 _ _) (meets_str_partition a b t t' hb ha) ?_
 unfold Txt.partition at q
 cases e:Builtin.Str.occurrences a b 0 a.length 1 with
 |nil=>
  rw[e]at q
  exact⟨.ref _,_,I.tnew (t':=s.toks+1) (ys:=[.str a,.str Str.empty,.str Str.empty]) (its:=[.str a t,.str Str.empty s.toks,.str Str.empty s.toks]) (.cons ⟨_,rfl⟩ (.cons ⟨_,rfl⟩ (.cons ⟨_,rfl⟩ .nil))) (by show 3≤sizeLine;decide),rfl,q _ I.fresh⟩
 |cons i r=>
  rw[e]at q
  exact⟨.ref _,_,I.tnew (t':=s.toks+1+1) (ys:=[.str (Builtin.Str.strSub a 0 i),.str b,.str (Builtin.Str.strSub a (i+b.length) a.length)]) (its:=[.str (Builtin.Str.strSub a 0 i) s.toks,.str b t',.str (Builtin.Str.strSub a (i+b.length) a.length) (s.toks+1)]) (.cons ⟨_,rfl⟩ (.cons ⟨_,rfl⟩ (.cons ⟨_,rfl⟩ .nil))) (by show 3≤sizeLine;decide),rfl,q _ I.fresh⟩
noncomputable def rAll(K:PySem.W.Frag):List V→Hp→VK→Prop:=fun xs H Q=>∃(p:Addr) (bs:List Bool),xs=[.ref p]∧SqL K H p (bs.map V.bl)∧Q (.bl (bs.all id)) H
theorem Zj1:∀{bs:List Bool} {us:List Value},Vals (bs.map V.bl) us→us=bs.map Value.bool
 | [],_,r=>by rw[List.map_nil]at r;cases r;rfl
 |b::bs,_,r=>by
  rw[List.map_cons]at r
  cases r with
  |cons h t=>
   cases(show _=Value.bool b from h)
   rw[Zj1 t];rfl
theorem Zg9:∀bs:List Bool,(List.range bs.length).all (fun i=>(bs[i]?).getD true)=bs.all id
 | []=>rfl
 |b::bs=>by
  rw[List.length_cons,List.range_succ_eq_map,List.all_cons,List.all_map,List.all_cons,←Zg9 bs]
  rfl
theorem Zqe(hc:X.calm=true):Zcu X (.builtin "all") (rAll X.K):=by
 intro pins s σ H xs us Q I rs h
 obtain⟨p,bs,rfl,hq,q⟩:=h
 obtain⟨u,rfl,ru⟩:=Zcv rs
 cases ru
 obtain⟨its,rv,pl,hz⟩:=I.list hq
 have e:=Zj1 rv
 subst e
 refine call_all_walk (wpAny_pyIter_list pl.isList ?_)
 have hne:p≠s.heap.objs.size:=fun z=>by
  obtain⟨o,ho,_⟩:=pl.isList
  have:=Heap.lt_size ho
  rw[z]at this;exact Nat.lt_irrefl _ this
 refine⟨s.heap.objs.size,_,_,_,_,_,fun i=>(bs[i]?).getD true,rfl,Walks.list (by first|exact I.ok.hd hc| (rw[show X.A.in1.handled=X.A.handled from rfl];exact I.ok.hd hc)) _ p hne (bs.map Value.bool).toArray,⟨⟨_,Heap.get?_push_size _ rfl,rfl,rfl⟩,pl.isList.at fun o e=>Heap.get?_push_of_some _ e⟩,?_,fun h' tk hk=>?_⟩
 ·intro i v s' Q' E' hP hQ
  have hP':(bs.map Value.bool)[i]? =some v:=by simpa using hP
  rw[List.getElem?_map]at hP'
  cases hb:bs[i]? with
  |none=>rw[hb]at hP';cases hP'
  |some b=>
   rw[hb]at hP'
   cases hP'
   dsimp only at hQ
   rw[hb]at hQ
   exact wpAny_truthy_bool hQ
 ·have e:(List.range (bs.map Value.bool).toArray.size).all (fun i=>(bs[i]?).getD true)=bs.all id:=by
   rw[List.size_toArray,List.length_map];exact Zg9 bs
  rw[e]
  refine⟨.bl _,H,I.kept (t':=tk) fun b o hb=>hk b o (fun z=>?_) (Heap.get?_push_of_some _ hb),rfl,q⟩
  have z':b=s.heap.objs.size:=by simpa using z
  have:=Heap.lt_size hb
  rw[z']at this;exact Nat.lt_irrefl _ this
end
end L2
namespace DL
open PySem PySem.Spec PyProof.Rows L2
variable{K:PySem.W.Frag}
noncomputable def signs(z:Str):List D:=z.cps.toList.map fun c=>.str ⟨#[c]⟩
theorem Ziy{z:Str}{F:Hp}:Zch K (Its z) F (signs z):=fun F' H sF sH i=>by
 have hl:(signs z).length=z.length:=by unfold signs;rw[List.length_map];rfl
 refine⟨fun d hd=>?_,fun h=>by rw[hl]at h;exact h⟩
 have hi:i<z.length:=by
  have:=(List.getElem?_eq_some_iff.mp hd).1
  rw[hl]at this;exact this
 refine⟨hi,fun x H' zq9=>?_⟩
 obtain⟨e1,c,e2,e3⟩:=zq9
 subst e1 e3
 unfold signs at hd
 rw[List.getElem?_map]at hd
 have e4:z.cps.toList[i]? =some c:=by simpa using e2
 rw[e4]at hd
 cases hd
 exact⟨Same.refl _,[],List.nodup_nil,fun _ h=>(nomatch h),.str _⟩
section
variable{Z:Ent K}{H:Hp}{σ:L2.St}{Q:VK}{E:Ends}
@[simp] noncomputable def anyI(fe:FE):FD:=fun δ=>(fe δ).bind fun p=>(frz p.1 p.2).bind fun q=>match q.1 with
 | .lst xs=>some (xs,q.2)
 | .tup xs=>some (xs,q.2)
 | .str z=>some (signs z,q.2)
 |_=>none
theorem Zw7{fe:FE}{R:It→Hp→Prop}(h:Zbr Z (anyI fe) σ H R):iAny K (Zb Z fe) σ H R:=by
 obtain⟨F,δ,own,ds,δ',s,e,k⟩:=h
 obtain⟨⟨rv,δ1⟩,e1,e2⟩:=Option.bind_eq_some_iff.mp e
 obtain⟨⟨d,δ2⟩,e3,e4⟩:=Option.bind_eq_some_iff.mp e2
 refine⟨F,δ,own,rv,δ1,s,e1,fun v H1 F1 own1 sH sF s1 r1=>?_⟩
 obtain⟨F2,sF2,s2,r2⟩:=s1.settleR r1
 obtain⟨F3,own3,sF3,s3,r3⟩:=s2.frzR r2 e3
 dsimp only at e4
 split at e4
 ·cases e4
  cases r3 with
  |lst h r=>exact .inl ⟨_,rfl,⟨_,Zah s3.le h⟩,k _ H1 F3 own3 sH (sF.trans (sF2.trans sF3)) s3 (Ziq h r)⟩
 ·cases e4
  cases r3 with
  |tup h r=>exact .inr (.inl ⟨_,rfl,⟨_,Zat s3.le (Zd4 h)⟩,k _ H1 F3 own3 sH (sF.trans (sF2.trans sF3)) s3 (Zld (Zd4 h) r)⟩)
 ·cases e4
  cases r3 with
  |str x=>exact .inr (.inr ⟨_,rfl,k _ H1 F3 own3 sH (sF.trans (sF2.trans sF3)) s3 Ziy⟩)
 ·cases e4
@[simp] noncomputable def inS(i j:Str):Bool:=!(Builtin.Str.occurrences j i 0 j.length 1).isEmpty
@[simp] noncomputable def inD:D→D→Option SV
 | .str i,.str j=>some (.fz (.bl (inS i j)))
 |_,_=>none
@[simp] noncomputable def Zj2:D→D→Option SV
 | .str i,.str j=>some (.fz (.bl (!inS i j)))
 |_,_=>none
theorem p_in:Z8 Z (fun x y H Q=>∃i j,x= .str i∧y= .str j∧Q (.bl (!(Builtin.Str.occurrences j i 0 j.length 1).isEmpty)) H) inD:=by
 intro F H σ δ own x y d1 d2 sv Q s r1 r2 e k
 unfold inD at e
 split at e
 ·cases e;exact⟨_,_,r1.str,r2.str,k.fz s (.bl _)⟩
 ·cases e
theorem Ztn:Z8 Z (fun x y H Q=>∃i j,x= .str i∧y= .str j∧Q (.bl (!(!(Builtin.Str.occurrences j i 0 j.length 1).isEmpty))) H) Zj2:=by
 intro F H σ δ own x y d1 d2 sv Q s r1 r2 e k
 unfold Zj2 at e
 split at e
 ·cases e;exact⟨_,_,r1.str,r2.str,k.fz s (.bl _)⟩
 ·cases e
@[simp] noncomputable def Zha:List D→Option SV
 | [.str a,.str b]=>if(b.length==0)=false∧a.length≤PySem.sizeLine∧(Txt.split a b).length≤PySem.sizeLine then some (.ol ((Txt.split a b).map D.str))else none
 |_=>none
theorem Zee{F:Hp}:∀xs:List Str,Reps K F (xs.map D.str) (xs.map V.str)
 | []=>.nil
 |x::r=>.cons (.str x) (Zee r)
theorem Zto:Zm9 Z Zry Zha:=by
 intro F H σ δ own vs ds sv Q s r e k
 unfold Zha at e
 split at e
 ·rename_i a b
  split at e
  ·rename_i h
   cases e
   cases r with
   |cons h1 t=>cases t with
    |cons h2 t=>cases t;exact⟨_,_,rfl,a,b,h1.str,by rw[h2.str],h.1,h.2.1,h.2.2,fun p hp=>k.lst s (Zee _) hp⟩
  ·cases e
 ·cases e
@[simp] noncomputable def Zbe:List D→Option SV
 | [.str a,.str b]=>if(b.length==0)=false∧a.length≤PySem.sizeLine then some (.fz (.tup [.str (Txt.partition a b).1,.str (Txt.partition a b).2.1,.str (Txt.partition a b).2.2]))else none
 |_=>none
theorem Ziz:Zm9 Z Zw6 Zbe:=by
 intro F H σ δ own vs ds sv Q s r e k
 unfold Zbe at e
 split at e
 ·rename_i a b
  split at e
  ·rename_i h
   cases e
   cases r with
   |cons h1 t=>cases t with
    |cons h2 t=>cases t;exact⟨_,_,rfl,a,b,h1.str,by rw[h2.str],h.1,h.2,fun p hp=>k.tup s (.cons (.str _) (.cons (.str _) (.cons (.str _) .nil))) hp⟩
  ·cases e
 ·cases e
@[simp] noncomputable def bools?:List D→Option (List Bool)
 | []=>some []
 | .bl x::r=>(bools? r).bind fun t=>some (x::t)
 |_=>none
theorem Zj3{F:Hp}:∀{ds:List D} {xs:List Bool} {vs:List V},bools? ds=some xs→Reps K F ds vs→vs=xs.map V.bl
 | [],_,_,e,r=>by cases e;cases r;rfl
 |d::ds,_,_,e,r=>by
  cases r with
  |cons h t=>
   unfold bools? at e
   split at e
   ·rename_i e0;cases e0
   ·rename_i x r0 e0
    cases e0
    obtain⟨ys,e1,e2⟩:=Option.bind_eq_some_iff.mp e
    cases e2
    cases h
    rw[Zj3 e1 t];rfl
   ·cases e
@[simp] noncomputable def allD:List D→Option SV
 | [.lst xs]=>(bools? xs).bind fun bs=>some (.fz (.bl (bs.all id)))
 |_=>none
theorem Zz9:Zfp Z (rAll K) allD:=by
 intro F H σ δ own vs ds sv Q s r e k
 unfold allD at e
 split at e
 ·obtain⟨bs,e1,e2⟩:=Option.bind_eq_some_iff.mp e
  cases e2
  cases r with
  |cons h1 t=>
   cases t
   obtain⟨a,vs,rfl,ha,ra⟩:=h1.lst s.le
   rw[Zj3 e1 ra]at ha
   exact⟨a,bs,rfl,ha,k.fz s (.bl _)⟩
 ·cases e
@[simp] noncomputable def Z2a(i:Nat):FS:=fun δ=>match δ[i]? with
 |some (some (.ol _))=>some (.nx (δ.set i (some (.ol []))))
 |_=>none
end
section
variable{X:Cx}{Z:Ent X.K}{a b c:Expr}{fa fb fc:FE}{pos:Pos}{tg:Expr}
theorem Ztp(ha:PE X a (Zb Z fa)):PI X tg a (Zbr Z (anyI fa)):=fun pins s σ H R I h=>Zw5 ha pins s σ H R I (Zw7 h)
theorem Znn{apos cpos:Pos}(ha:PE X a (Zb Z fa))(hb:PE X b (Zb Z fb))(hbase:attributeBase a "split" X.env (eval a X.env)=eval a X.env:=by rfl)
  (hfew:((backTo cpos (starEach [b] X.env)).all (fun x=>!x.1)&&(backToKw cpos (keywordEach [] X.env)).all (fun x=>x.1.isSome)&&decide ([b].length+([]:List Keyword).length+(if([]:List Keyword).isEmpty then 0 else 1)<30))=true:=by rfl)
  (hline:(apos.endLine==cpos.line)=true:=by rfl) (hs:starEach [b] X.env=(false,eval b X.env)::starEach [] X.env:=by rfl) (hpl:(backTo cpos (starEach [] X.env)).any (·.1)=false:=by rfl):
  PE X (.Call (.Attribute a "split" apos) [b] [] cpos) (Zb Z (bmF "str" Zha fa (Zc fb Zi))):=
 (Zgy PySem.F.plainAttrs_str PySem.F.slot_str_split PySem.F.type_str_split Zqd ha (Zj hb Zag hs) hbase hfew hline hs hpl).imp fun _ _ _ h=>l_bm Zto h
theorem Zef{apos cpos:Pos}(ha:PE X a (Zb Z fa))(hb:PE X b (Zb Z fb))(hbase:attributeBase a "partition" X.env (eval a X.env)=eval a X.env:=by rfl)
  (hfew:((backTo cpos (starEach [b] X.env)).all (fun x=>!x.1)&&(backToKw cpos (keywordEach [] X.env)).all (fun x=>x.1.isSome)&&decide ([b].length+([]:List Keyword).length+(if([]:List Keyword).isEmpty then 0 else 1)<30))=true:=by rfl)
  (hline:(apos.endLine==cpos.line)=true:=by rfl) (hs:starEach [b] X.env=(false,eval b X.env)::starEach [] X.env:=by rfl) (hpl:(backTo cpos (starEach [] X.env)).any (·.1)=false:=by rfl):
  PE X (.Call (.Attribute a "partition" apos) [b] [] cpos) (Zb Z (bmF "str" Zbe fa (Zc fb Zi))):=
 (Zgy PySem.F.plainAttrs_str PySem.F.slot_str_partition PySem.F.type_str_partition Ztm ha (Zj hb Zag hs) hbase hfew hline hs hpl).imp fun _ _ _ h=>l_bm Ziz h
theorem Z0a{p:Pos}(hm:X.mg "all"=none)(ha:PE X a (Zb Z fa))(hc:X.calm=true:=by rfl)(hg:Gl X "all":=by rfl)(he:starEach [a] X.env=(false,eval a X.env)::starEach [] X.env:=by rfl)(hpl:(backTo pos (starEach [] X.env)).any (·.1)=false:=by rfl):PE X (.Call (.Name "all" p) [a] [] pos) (Zb Z (Zda allD (Zc fa Zi))):=
 Znd (Zqe hc) Zz9 hm boot_all (Zj ha Zag he) hg (by decide) (by decide) he hpl
end
end DL
namespace L2
open PySem PySem.Spec PyProof.Rows
open AutoSeq1 (wpAny_loadPart')
section
variable{prog:Program}{w:World}{A:Around}{E:Value→Shared→Prop}{s:Shared}
theorem Zeg{it t:Addr}{i:Nat}{items:Array Value}{x:Value}{Q:Value→Shared→Prop}(hit:s.heap.IsTupleIter it t i)(ht:s.heap.IsTuple t items)(hx:items[i]? =some x)
  (hQ:∀h',h'.IsTupleIter it t (i+1)→Heap.SameBut it s.heap h'→Q x {s with heap:=h'}):wpAny (model prog w) A (Builtin.SmallTypes.nextOf (.ref it)) Q E s:=by
 obtain⟨o,ho,hc,hd⟩:=id hit;obtain⟨ol,hol,_,nl,hdl⟩:=ht;unfold Builtin.SmallTypes.nextOf
 refine wpAny_bind (wpAny_callSpecial?_slot (name:=Str.ofString "__next__") hit.typeIs F.slot_tuple_iterator_next (wpAny_call_entry F.slot_tuple_iterator_next hit.typeIs F.entry_tuple_iterator_next ?_ (F.args_tuple_iterator_next_1 _)))
 show wpAny _ _ (field (.ref it) 0 >>=_) _ _ s;refine wpAny_bind (wpAny_field ho hd (x:=.ref t) rfl ?_)
 show wpAny _ _ (if(Value.ref t==Value.none)=true then _ else _) _ _ s;rw[if_neg (show¬((Value.ref t==Value.none)=true)from Bool.false_ne_true)]
 show wpAny _ _ (field (.ref it) 1 >>=_) _ _ s;refine wpAny_bind (wpAny_field ho hd (x:=.int i 0) rfl ?_)
 show wpAny _ _ (seqItems? (.ref t) >>=_) _ _ s;refine wpAny_bind (wpAny_seqItems hol hdl ?_);simp only[Int.toNat_natCast,hx]
 refine wpAny_bind (wpAny_setField ho hd (by simp) (wpAny_pure ⟨x,rfl,wpAny_pure (hQ _ ⟨_,Heap.get?_update_self _ ho (Obj.isFreed_of_fields (Obj.data_mapFields hd _)),(Obj.cls_mapFields ..).trans hc,by rw[Obj.data_mapFields hd];simp[rawInt]⟩ (Heap.SameBut.update ..))⟩))
theorem Zci{it t:Addr}{i:Nat}{items:Array Value}{Q:Value→Shared→Prop}(hh:A.handled=none)(hit:s.heap.IsTupleIter it t i)(ht:s.heap.IsTuple t items)(hx:items[i]? =none)
  (hE:∀h' e,Heap.ExtBut it s.heap h'→(∃o,h'.get? e=some o∧o.cls= .type "StopIteration")→E (.ref e) {s with heap:=h'}):wpAny (model prog w) A (Builtin.SmallTypes.nextOf (.ref it)) Q E s:=by
 obtain⟨o,ho,hc,hd⟩:=id hit;obtain⟨ol,hol,_,nl,hdl⟩:=ht;unfold Builtin.SmallTypes.nextOf
 refine wpAny_bind (wpAny_callSpecial?_slot (name:=Str.ofString "__next__") hit.typeIs F.slot_tuple_iterator_next (wpAny_call_entry F.slot_tuple_iterator_next hit.typeIs F.entry_tuple_iterator_next ?_ (F.args_tuple_iterator_next_1 _)))
 show wpAny _ _ (field (.ref it) 0 >>=_) _ _ s;refine wpAny_bind (wpAny_field ho hd (x:=.ref t) rfl ?_)
 show wpAny _ _ (if(Value.ref t==Value.none)=true then _ else _) _ _ s;rw[if_neg (show¬((Value.ref t==Value.none)=true)from Bool.false_ne_true)]
 show wpAny _ _ (field (.ref it) 1 >>=_) _ _ s;refine wpAny_bind (wpAny_field ho hd (x:=.int i 0) rfl ?_)
 show wpAny _ _ (seqItems? (.ref t) >>=_) _ _ s;refine wpAny_bind (wpAny_seqItems hol hdl ?_);simp only[Int.toNat_natCast,hx]
 refine wpAny_bind (wpAny_rule (wpAny_bind (wpAny_setField ho hd (by simp) ?_)));show wpAny _ _ (newExc (.type "StopIteration") [] >>=_) _ _ _
 refine wpAny_bind ?_;simp only[newExc,newTuple];refine wpAny_bind (wpAny_newObj_type ?_ (by size_fits))
 refine wpAny_bind (m:=firstArgMember _ _) (wpAny_of_eq (a:=Value.none) (by first|rfl| (simp only[firstArgMember];rfl)) ?_);refine wpAny_newObj_type ?_ (by size_fits)
 simp only[raiseNew];refine wpAny_bind (wpAny_handled ?_);first|rw[show A.in1.handled=none from hh]|rw[hh]
 refine wpAny_bind (wpAny_pure (wpAny_throw ?_));exact hE _ _ (((Heap.SameBut.update ..).extBut.push _).push _) ⟨_,Heap.get?_push_size _ rfl,rfl⟩
theorem Zi0{h h':Heap}{t it:Addr}{items:Array Value}(x:h.IsTuple t items)(hs:Heap.ExtBut it h h')(hne:t≠it):h'.IsTuple t items:=let⟨o,ho,r⟩:=x;⟨o,hs t o hne ho,r⟩
theorem Zno{prog:Program}{w:World}{A:Around}(hh:A.handled=none)(it l:Addr)(hne:l≠it)(items:Array Value):
  Draws prog w A it [it,l] items.size (fun i v=>items[i]? =some v) (fun i h=>h.IsTupleIter it l i∧h.IsTuple l items)where
 live:=fun _ _ st=>let⟨o,ho,_⟩:=st.1;⟨o,ho⟩
 frame:=fun _ _ _ st hk=>⟨st.1.at fun o e=>hk it (by simp) o e,let⟨o,ho,r⟩:=st.2;⟨o,hk l (by simp) o ho,r⟩⟩
 item:=fun i s Q E hi st hQ=>by
  refine Zeg st.1 st.2 (x:=items[i]) (by simp[hi]) fun h' hit' hs'=>?_
  exact hQ _ h' s.toks (by simp[hi]) ⟨hit',Zi0 st.2 hs'.extBut hne⟩ hs'
 done:=fun s Q E st hE=>Zci hh st.1 st.2 (by simp) hE
theorem Zhb(l:Addr)(items:Array Value)(n:Nat)(dct:Option Addr)(sl:Array (Option Value)):
  Meets (Builtin.«enumerate.__new__» ⟨[.type "enumerate",.ref l],[]⟩) (fun _ R s=>s.heap.get? l=some {cls:=.type "tuple",dict:=dct,data:=.seq items n,slots:=sl}∧
   R (.ok (.ret (.ref (s.heap.push {cls:=.type "tuple_iterator",data:=.fields #[.ref l,.int 0 0]}).objs.size))) {s with heap:=(s.heap.push {cls:=.type "tuple_iterator",data:=.fields #[.ref l,.int 0 0]}).push {cls:=.type "enumerate",data:=.fields #[.none,.bool false,.ref s.heap.objs.size,rawInt 0,.none,.none]}}):=
 .of_wp fun prog w A R s h=>by
  obtain⟨hp,g,d,tk,os⟩:=s;obtain⟨hl,h⟩:=h;have hsub:=sub_enumerate
  have hL:Heap.IsTuple (Shared.heap ⟨hp,g,d,tk,os⟩) l items:=⟨_,hl,rfl,n,rfl⟩
  wp_walk using wpAny_loadPart' hl
  refine wpAny_stack_any fun st=>wpAny_pure ?_;split
  ·rename_i c _ _ _ _ _
   cases(c==Value.type "enumerate")
   ·wp_walk using wpAny_loadPart' hl,wpAny_pyIter_tuple hL
    exact⟨_,rfl,h⟩
   ·wp_walk using wpAny_loadPart' hl,wpAny_pyIter_tuple hL
    exact⟨_,rfl,h⟩
  ·wp_walk using wpAny_loadPart' hl,wpAny_pyIter_tuple hL
   exact⟨_,rfl,h⟩
theorem Zfw{l:Addr}{items:Array Value}{Q:Value→Shared→Prop}(hL:s.heap.IsTuple l items)
  (h:∀h',IsEnum h' (s.heap.objs.size+1) s.heap.objs.size 0 .none→h'.IsTupleIter s.heap.objs.size l 0→h'.objs.size=s.heap.objs.size+2→(∀b o,s.heap.get? b=some o→h'.get? b=some o)→Q (.ref (s.heap.objs.size+1)) {s with heap:=h'}):
  wpAny (model prog w) A (call (.type "enumerate") [.ref l]) Q E s:=by
 obtain⟨⟨c,dct,dt,sl⟩,hl,hc,n,hd⟩:=hL;replace hc:c= .type "tuple":=hc;replace hd:dt= .seq items n:=hd;subst hc hd
 refine callType_new F.called_enumerate (by decide) (F.typeCall_enumerate_1 _) (F.newCall_enumerate_1 _) (fun obj=>F.args_object_init_2 obj _) F.entry_enumerate_new (Zhb l items n dct sl) ⟨hl,?_⟩
 have hz:(s.heap.push {cls:=.type "tuple_iterator",data:=.fields #[.ref l,.int 0 0]}).objs.size=s.heap.objs.size+1:=Heap.size_push ..
 show _∧_;rw[hz]
 have he:IsEnum ((s.heap.push {cls:=.type "tuple_iterator",data:=.fields #[.ref l,.int 0 0]}).push {cls:=.type "enumerate",data:=.fields #[.none,.bool false,.ref s.heap.objs.size,rawInt 0,.none,.none]}) (s.heap.objs.size+1) s.heap.objs.size 0 .none:=by
  have:=Heap.get?_push_size (s.heap.push {cls:=.type "tuple_iterator",data:=.fields #[.ref l,.int 0 0]}) (o:={cls:=.type "enumerate",data:=.fields #[.none,.bool false,.ref s.heap.objs.size,rawInt 0,.none,.none]}) rfl
  rw[hz]at this;exact this
 exact⟨⟨_,he,rfl⟩,h _ he ⟨_,Heap.get?_push_of_some _ (Heap.get?_push_size _ rfl),rfl,rfl⟩ (by rw[Heap.size_push,hz]) fun b o x=>Heap.get?_push_of_some _ (Heap.get?_push_of_some _ x)⟩
theorem Zhc{e it l:Addr}{i:Nat}{items:Array Value}{old:Value}{Q:Option Value→Shared→Prop}(hh:A.handled=none)(he:IsEnum s.heap e it i old)(hit:s.heap.IsTupleIter it l i)(hl:s.heap.IsTuple l items)(hx:items[i]? =none)
  (hQ:∀h',Heap.ExtBut it s.heap h'→Q none {s with heap:=h'}):wpAny (model prog w) A (pyNext (.ref e)) Q E s:=by
 have hT:s.TypeIs (.ref e) "enumerate":=⟨_,he,rfl⟩;unfold pyNext
 refine wpAny_bind (wpAny_attempt (wpAny_callSpecial?_slot (name:=Str.ofString "__next__") hT F.slot_enumerate_next (wpAny_call_entry F.slot_enumerate_next hT F.entry_enumerate_next ?_ (F.args_enumerate_next_1 _))))
 show wpAny _ _ (field (.ref e) 2 >>=_) _ _ _;refine wpAny_bind (wpAny_field he rfl (x:=.ref it) rfl ?_)
 refine wpAny_bind (Zci (by first|exact hh| (rw[show A.in1.handled=A.handled from rfl];exact hh)) hit hl hx fun h' x he' hx'=>?_);obtain⟨o,ho,hc⟩:=hx'
 refine wpAny_bind (wpAny_isInstance (T:="StopIteration") (b:=true) ⟨o,ho,hc⟩ isSubtype_stop ?_);exact wpAny_pure (hQ _ he')
end
section
variable{X:Cx}{tg:Expr}
noncomputable def IteT(K:PySem.W.Frag)(a:Addr):It:=
 ⟨fun i H=>∃xs x,SqT K H a xs∧xs[i]? =some x,fun i H x H'=>∃p v,x= .ref p∧H p=none∧H'=upd H p (.tup [.int (i:Nat),v])∧∀xs,SqT K H a xs→xs[i]? =some v,fun i H=>∃xs,SqT K H a xs∧xs.length≤i⟩
theorem Zlg{P:Program}{w:World}{K:PySem.W.Frag}{elts:List Expr}{kk:Nat}{tpos:Pos}(a e it:Addr)(hei:e≠it):Turn P w K (.Tuple elts kk tpos) (IteT K a) [e,it] e (fun i h=>(∃old,IsEnum h e it ((i:Nat):Int) old)∧h.IsTupleIter it a i)where
 mem:=by simp
 obj:=fun i h st b hb=>by
  have hb':b=e∨b=it:=by simpa using hb
  rcases hb' with z|z
  ·subst z
   obtain⟨old,q⟩:=st.1
   exact⟨_,q,fun v y=>by
    have y':Data.fields _=Data.cell v:=y
    cases y'⟩
  ·subst z
   obtain⟨o,q,c,d⟩:=st.2
   exact⟨o,q,fun v y=>by rw[d]at y;cases y⟩
 keep:=fun i h h' st k=>⟨let⟨old,q⟩:=st.1;⟨old,k e (by simp) _ q⟩,st.2.at fun o q=>k it (by simp) o q⟩
 item:=by
  intro X hP hw hK hc i pins s σ H E I hf st hg
  subst hP hw hK
  obtain⟨xs,x,hq,hx⟩:=hg
  obtain⟨its,rv,p,hz⟩:=I.tuple hq
  obtain⟨u,hu,ru⟩:=rv.get hx
  obtain⟨⟨old,he⟩,hit⟩:=st
  have hl:s.heap.IsTuple a its.toArray:=p
  have ai:a≠it:=fun z=>by
   obtain⟨o1,q1,c1,_⟩:=hit
   obtain⟨o2,q2,c2,_⟩:=hl
   rw[z,q1]at q2;cases q2
   rw[c1]at c2;exact absurd c2 (by decide)
  have ae:e∉[it,a]:=fun z=>by
   have z':e=it∨e=a:=by simpa using z
   rcases z' with z|z
   ·exact hei z
   ·obtain⟨o2,q2,c2,_⟩:=hl
    rw[←z,he]at q2;cases q2;exact absurd (show Value.type "enumerate"=Value.type "tuple"from c2) (by decide)
  have D:=Zno (prog:=X.prog) (w:=X.w) (A:=X.A.in1) (by first|exact I.ok.hd hc| (rw[show X.A.in1.handled=X.A.handled from rfl];exact I.ok.hd hc)) it a ai its.toArray
  have hlt:i<its.toArray.size:=by
   have:=(List.getElem?_eq_some_iff.mp hu).1
   rw[List.size_toArray];exact this
  refine wpAny_pyNext_enum_itemD D he ⟨hit,hl⟩ hlt hei ae fun y h' tk hy hout st' hT hsz hk=>⟨.ref s.heap.objs.size,rfl,?_⟩
  refine wpAny_letOwnedTupleGo_enum hout fun h2 he2 hs2=>?_
  have hy':its.toArray[i]? =some y:=hy
  have ey:y=u:=by
   have:its[i]? =some y:=by simpa using hy'
   rw[hu]at this;cases this;rfl
  subst ey
  have kk:∀b o,b≠e→b≠it→s.heap.get? b=some o→h2.get? b=some o:=fun b o h1 h3 q=>(hs2.2 b h1).trans (hk b o h1 h3 q)
  have neT:s.heap.objs.size≠e:=Nat.ne_of_gt (Heap.lt_size he)
  have I2:=I.turnedT (h':=h2) (t':=tk+1) (e:=e) (it:=it) (T:=s.heap.objs.size) (xs:=[.int (i:Nat),x]) (its:=[.int i tk,y]) kk (hf e (by simp)) (hf it (by simp)) rfl ⟨_,(hs2.2 _ neT).trans hT,rfl,_,rfl⟩ (.cons ⟨tk,rfl⟩ (.cons ru .nil)) (by show 2≤sizeLine;decide)
   ⟨_,he2⟩ (let⟨o,q,_⟩:=st'.1;⟨o,(hs2.2 it (Ne.symm hei)).trans q⟩)
  refine⟨.ref s.heap.objs.size,_,I2,rfl,⟨s.heap.objs.size,x,rfl,I.hok.fresh (Nat.le_refl _),rfl,fun ys hy2=>by rw[I.tuple_inj hy2 hq];exact hx⟩,⟨⟨_,he2⟩,st'.1.at fun o q=>(hs2.2 it (Ne.symm hei)).trans q⟩,fun b hb=>?_⟩
  rw[Zo fun z=>?_]
  ·exact(hf b hb).1
  ·have hb':b=e∨b=it:=by simpa using hb
   rcases hb' with y|y
   ·rw[←z,y]at neT;exact neT rfl
   ·obtain⟨o,q,_⟩:=hit
    rw[y]at z
    exact absurd (Heap.lt_size q) (by rw[z];exact Nat.lt_irrefl _)
 done:=by
  intro X hP hw hK hc i pins s σ H E I hf st hg
  subst hP hw hK
  obtain⟨xs,hq,hx⟩:=hg
  obtain⟨its,rv,p,hz⟩:=I.tuple hq
  obtain⟨⟨old,he⟩,hit⟩:=st
  obtain⟨f0,f1,f2,f3,f4,f5⟩:=hf it (by simp)
  have hl:=rv.length
  exact Zhc (I.ok.hd hc) he hit (show s.heap.IsTuple a its.toArray from p) (by simp;omega) fun h' eb=>⟨rfl,I.turned (t':=s.toks) (fun b o hb q=>eb b o hb q) f0 f1 f3 f4 f5⟩
 self:=fun _ _ _ _ _ st h=>let⟨⟨old,he⟩,_⟩:=st;wpAny_pyIter_enum he h
noncomputable def Zrz(K:PySem.W.Frag)(ta:TA):TI:=fun σ H R=>ta σ H fun vs H1=>∃a xs,vs=[.ref a]∧SqT K H1 a xs∧R (IteT K a) H1
theorem Zqf{l:Expr}{elts:List Expr}{kk:Nat}{tpos p pos:Pos}{ta:TA}(hg:Gl X "enumerate")(hm:X.mg "enumerate"=none)(ha:PA X [l] ta)(hs:starEach [l] X.env=[(false,eval l X.env)]:=by rfl):
  PI X (.Tuple elts kk tpos) (.Call (.Name "enumerate" p) [l] [] pos) (Zrz X.K ta):=by
 intro pins s σ H R I h
 refine Call_ (Zdw I hg hm boot_enumerate (PyProof.Rows.callWith_type1 (thn (ha pos pins s σ H _ I h) fun us s1 ⟨vs,H1,I1,r1,q1⟩=>?_) hs rfl))
 obtain⟨a,xs,e,hq,q⟩:=q1
 subst e
 obtain⟨u,rfl,ru⟩:=Zcv r1
 cases ru
 obtain⟨its,rv,p,hz⟩:=I1.tuple hq
 refine Zfw (show s1.heap.IsTuple a its.toArray from p) fun h' he hit hsz hk=>wpAny_pyIter_enum he ?_
 have I2:Inv X pins σ H1 {s1 with heap:=h'}:=I1.kept (t':=s1.toks) hk
 refine⟨s1.heap.objs.size+1,[s1.heap.objs.size+1,s1.heap.objs.size],_,_,H1,rfl,I2,Zlg a _ _ (Nat.succ_ne_self _),⟨⟨.none,by simpa using he⟩,hit⟩,fun b hb=>?_,q⟩
 have hb':b=s1.heap.objs.size+1∨b=s1.heap.objs.size:=by simpa using hb
 rcases hb' with z|z
 ·subst z;exact I1.fpOk (Nat.le_succ _) (I1.hok.fresh (Nat.le_succ _))
 ·subst z;exact I1.fpOk (Nat.le_refl _) (I1.hok.fresh (Nat.le_refl _))
end
end L2
namespace DL
open PySem PySem.Spec PyProof.Rows L2
variable{K:PySem.W.Frag}
theorem Zhd{F:Hp}{a:Addr}{xs:List D}{vs:List V}(h:SqT K F a vs)(r:Reps K F xs vs):Zch K (IteT K a) F (Zd9 xs):=fun F' H sF sH i=>by
 have q:SqT K H a vs:=Zat (sF.trans sH) h
 refine⟨fun d hd=>?_,fun hl=>⟨vs,q,by rw[←r.length,←Zg5];exact hl⟩⟩
 obtain⟨x,hx,rfl⟩:=Zg4 hd
 obtain⟨v,h1,h2⟩:=r.get hx
 refine⟨⟨vs,v,q,h1⟩,fun y H' zq9=>?_⟩
 obtain⟨p,w,e1,e2,e3,e4⟩:=zq9
 subst e1 e3
 have e5:=e4 vs q
 rw[h1]at e5;cases e5
 have hp:F' p=none:=sH.free e2
 have sm:Same F' (addL F' [(p,.tup [.int (i:Nat),v])]):=Zan fun z hz=>by obtain rfl:=List.mem_singleton.mp hz;exact hp
 refine⟨Zbp e2,[(p,.tup [.int (i:Nat),v])],nd1,fun z hz=>?_,.tup Z3 (.cons (.int _) (.cons (h2.mono (sF.trans sm)) .nil))⟩
 obtain rfl:=List.mem_singleton.mp hz
 exact⟨e2,Z3⟩
section
variable{Z:Ent K}{H:Hp}{σ:L2.St}{Q:VK}
@[simp] noncomputable def Zr0(fd:FD):FD:=fun δ=>(fd δ).bind fun p=>match p.1 with
 | [.tup xs]=>some (Zd9 xs,p.2)
 |_=>none
theorem Zqg{fd:FD}{R:It→Hp→Prop}(h:Zbr Z (Zr0 fd) σ H R):Zrz K (Zay Z fd) σ H R:=by
 obtain⟨F,δ,own,ds,δ',s,e,k⟩:=h
 obtain⟨⟨ds1,δ1⟩,e1,e2⟩:=Option.bind_eq_some_iff.mp e
 refine⟨F,δ,own,ds1,δ1,s,e1,fun vs H1 F1 own1 sH sF s1 r1=>?_⟩
 dsimp only at e2
 split at e2
 ·rename_i xs
  cases e2
  cases r1 with
  |cons h t=>
   cases t
   cases h with
   |tup h r=>exact⟨_,_,rfl,Zat s1.le (Zd4 h),k _ H1 F1 own1 sH sF s1 (Zhd (Zd4 h) r)⟩
 ·cases e2
end
section
variable{X:Cx}{Z:Ent X.K}{a:Expr}{fa:FE}{pos:Pos}
@[simp] noncomputable def Znp(fd:FD):FD:=fun δ=>(fd δ).bind fun p=>match p.1 with
 | [.lst xs]=>some (Zd9 xs,p.2)
 | [.tup xs]=>some (Zd9 xs,p.2)
 |_=>none
theorem Zqh{H:Hp}{σ:L2.St}{fd:FD}{R:It→Hp→Prop}(h:Zbr Z (Znp fd) σ H R):Zbr Z (Zwz fd) σ H R∨Zbr Z (Zr0 fd) σ H R:=by
 obtain⟨F,δ,own,ds,δ',s,e,k⟩:=h
 obtain⟨⟨ds1,δ1⟩,e1,e2⟩:=Option.bind_eq_some_iff.mp e
 dsimp only at e2
 split at e2
 ·rename_i xs
  exact .inl ⟨F,δ,own,ds,δ',s,Option.bind_eq_some_iff.mpr ⟨_,e1,e2⟩,k⟩
 ·rename_i xs
  exact .inr ⟨F,δ,own,ds,δ',s,Option.bind_eq_some_iff.mpr ⟨_,e1,e2⟩,k⟩
 ·cases e2
theorem Ztq{elts:List Expr}{kk:Nat}{tpos p:Pos}{fd:FD}(hm:X.mg "enumerate"=none)(ha:PA X [a] (Zay Z fd))(hg:Gl X "enumerate":=by rfl)(hs:starEach [a] X.env=[(false,eval a X.env)]:=by rfl):
  PI X (.Tuple elts kk tpos) (.Call (.Name "enumerate" p) [a] [] pos) (Zbr Z (Znp fd)):=fun pins s σ H R I h=>by
 rcases Zqh h with h|h
 ·exact Ztc hg hm ha hs pins s σ H R I (Zte h)
 ·exact Zqf hg hm ha hs pins s σ H R I (Zqg h)
end
end DL
namespace L2
open PySem PySem.Spec PyProof.Rows
variable{X:Cx}
noncomputable def Zr1(K:PySem.W.Frag):V→List V→Hp→VK→Prop:=fun x xs H Q=>∃sep p ys,x= .str sep∧xs=[.ref p]∧(SqL K H p (ys.map V.str)∨SqT K H p (ys.map V.str))∧JoinOk sep ys=true∧Q (.str (Txt.join sep ys)) H
theorem Zqi:MtR X "str.join" (Zr1 X.K):=by
 intro pins s σ H x xs v us Q I rx rs h
 obtain⟨sep,p,ys,rfl,rfl,hq,hok,q⟩:=h
 rcases hq with hq|hq
 ·exact Ztd pins s σ H _ _ v us Q I rx rs ⟨sep,p,ys,rfl,rfl,hq,hok,q⟩
 ·obtain⟨t,rfl⟩:=rx
  obtain⟨u,rfl,ru⟩:=Zcv rs
  cases ru
  obtain⟨its,rv,pl,hz⟩:=I.tuple hq
  obtain⟨l,e1,e2⟩:=Zis rv
  subst e1 e2
  have hok':=hok
  unfold JoinOk at hok'
  rw[Bool.not_eq_true']at hok'
  obtain⟨o,ho,hc,n,hd⟩:=(show s.heap.IsTuple p (strValues l).toArray from pl)
  exact call_meets F.slot_str_join (typeIs_str _ _ _) F.entry_str_join (F.args_str_join_2 _ _) (meets_str_join_tuple sep t p l hok') ⟨⟨o,n,ho,hc,hd⟩,post_join l ⟨joinFit_length hok',fun t' k=>⟨.str (Txt.join sep (l.map (·.1))),H,I.tok _,⟨_,rfl⟩,q⟩⟩⟩
end L2
namespace DL
open PySem PySem.Spec PyProof.Rows L2
variable{K:PySem.W.Frag}
@[simp] noncomputable def Zhe:List D→Option SV
 | [.str sep,.lst xs]=>(strs? xs).bind fun ys=>if JoinOk sep ys=true then some (.fz (.str (Txt.join sep ys)))else none
 | [.str sep,.tup xs]=>(strs? xs).bind fun ys=>if JoinOk sep ys=true then some (.fz (.str (Txt.join sep ys)))else none
 |_=>none
theorem Ztr{Z:Ent K}:Zm9 Z (Zr1 K) Zhe:=by
 intro F H σ δ own vs ds sv Q s r e k
 unfold Zhe at e
 split at e
 ·obtain⟨ys,e1,e2⟩:=Option.bind_eq_some_iff.mp e
  split at e2
  ·rename_i hok
   cases e2
   cases r with
   |cons h1 t1=>
    cases t1 with
    |cons h2 t2=>
     cases t2
     obtain⟨a,us,ex,ha,ra⟩:=h2.lst s.le
     rw[Ziu e1 ra]at ha
     exact⟨_,_,rfl,_,a,ys,h1.str,by rw[ex],.inl ha,hok,k.fz s (.str _)⟩
  ·cases e2
 ·obtain⟨ys,e1,e2⟩:=Option.bind_eq_some_iff.mp e
  split at e2
  ·rename_i hok
   cases e2
   cases r with
   |cons h1 t1=>
    cases t1 with
    |cons h2 t2=>
     cases t2
     obtain⟨a,us,ex,ha,ra⟩:=h2.tup s.le
     rw[Ziu e1 ra]at ha
     exact⟨_,_,rfl,_,a,ys,h1.str,by rw[ex],.inr ha,hok,k.fz s (.str _)⟩
  ·cases e2
 ·cases e
section
variable{X:Cx}{Z:Ent X.K}{a b:Expr}{fa fb:FE}
theorem Znq{apos cpos:Pos}(ha:PE X a (Zb Z fa))(hb:PE X b (Zb Z fb))(hbase:attributeBase a "join" X.env (eval a X.env)=eval a X.env:=by rfl)
  (hfew:((backTo cpos (starEach [b] X.env)).all (fun x=>!x.1)&&(backToKw cpos (keywordEach [] X.env)).all (fun x=>x.1.isSome)&&decide ([b].length+([]:List Keyword).length+(if([]:List Keyword).isEmpty then 0 else 1)<30))=true:=by rfl)
  (hline:(apos.endLine==cpos.line)=true:=by rfl) (hs:starEach [b] X.env=(false,eval b X.env)::starEach [] X.env:=by rfl) (hpl:(backTo cpos (starEach [] X.env)).any (·.1)=false:=by rfl):
  PE X (.Call (.Attribute a "join" apos) [b] [] cpos) (Zb Z (bmF "str" Zhe fa (Zc fb Zi))):=
 (Zgy PySem.F.plainAttrs_str PySem.F.slot_str_join PySem.F.type_str_join Zqi ha (Zj hb Zag hs) hbase hfew hline hs hpl).imp fun _ _ _ h=>l_bm Ztr h
end
end DL
namespace L2
open PySem PySem.Spec PyProof.Rows
variable{X:Cx}
noncomputable def Z0b:R2:=fun x y H Q=>∃a v,x= .ref a∧DGet H a y (some v)∧Q v H
noncomputable def rDIn:R2:=fun y x H Q=>∃a o,x= .ref a∧DGet H a y o∧Q (.bl o.isSome) H
noncomputable def Zeh:R2:=fun y x H Q=>∃a o,x= .ref a∧DGet H a y o∧Q (.bl (!o.isSome)) H
theorem Zfb(hu:X.A.units+1<cLine):OpR X (compareOp .In) rDIn:=by
 intro pins s σ H y x v u Q I ry rx h
 obtain⟨a,o,rfl,g,q⟩:=h
 cases rx
 exact d_in hu I g ry fun s' I'=>⟨.bl o.isSome,H,I',rfl,q⟩
theorem Zfx(hu:X.A.units+1<cLine):OpR X (compareOp .NotIn) Zeh:=by
 intro pins s σ H y x v u Q I ry rx h
 obtain⟨a,o,rfl,g,q⟩:=h
 cases rx
 exact Zsz hu I g ry fun s' I'=>⟨.bl (!o.isSome),H,I',rfl,q⟩
end L2
namespace DL
open PySem PySem.Spec PyProof.Rows L2
variable{K:PySem.W.Frag}
@[simp] noncomputable def D.key?:D→Option Key
 | .int i=>some (.inl i)
 | .str x=>some (.inr x)
 |_=>none
@[simp] noncomputable def keys?:List D→Option (List Key)
 | []=>some []
 |d::r=>d.key?.bind fun k=>(keys? r).bind fun t=>some (k::t)
section
variable{κ:Type}[DecidableEq κ]
@[simp] noncomputable def look(ks:List κ)(vs:List D)(k:κ):Option D:=match ks,vs with
 |a::ks,v::vs=>if a=k then some v else look ks vs k
 |_,_=>none
theorem Zi1{F:Hp}(k:κ):∀(kvs:List (κ×V)) (ds:List D),Reps K F ds (kvs.map (·.2))→match look (kvs.map (·.1)) ds k with
  |some d=>∃v,valV kvs k=some v∧Rep K F d v
  |none=>valV kvs k=none
 | [],_,r=>by cases r;exact Zpu
 |p::kvs,_,r=>by
  cases r with
  | @cons d v ds vs h t=>
   show match(if p.1=k then some d else look (kvs.map (·.1)) ds k)with
    |some d=>∃v,valV (p::kvs) k=some v∧Rep K F d v
    |none=>valV (p::kvs) k=none
   by_cases e:p.1=k
   ·rw[if_pos e]
    exact⟨p.2,Zcx e,h⟩
   ·rw[if_neg e,Zcy e]
    exact Zi1 k kvs ds t
@[simp] noncomputable def putA(ks:List κ)(vs:List D)(k:κ)(v:D):List κ×List D:=
 if k∈ks then(ks,(ks.zip vs).map fun p=>if p.1=k then v else p.2)else(ks++[k],vs++[v])
theorem Reps.length_map{F:Hp}{α:Type}{ds:List D}{kvs:List (α×V)}(r:Reps K F ds (kvs.map (·.2))):ds.length=kvs.length:=by rw[r.length,List.length_map]
theorem Znr{F:Hp}{k:κ}{d:D}{v:V}(hd:Rep K F d v):∀(kvs:List (κ×V)) (ds:List D),Reps K F ds (kvs.map (·.2))→
  Reps K F (((kvs.map (·.1)).zip ds).map fun p=>if p.1=k then d else p.2) ((kvs.map fun kv=>if kv.1=k then(kv.1,v)else kv).map (·.2))
 | [],_,r=>by cases r;exact .nil
 |p::kvs,_,r=>by
  cases r with
  | @cons d' v' ds vs h t=>
   have ih:=Znr (k:=k) hd kvs ds t
   show Reps K F ((if p.1=k then d else d')::(((kvs.map (·.1)).zip ds).map fun p=>if p.1=k then d else p.2)) ((if p.1=k then(p.1,v)else p).2::((kvs.map fun kv=>if kv.1=k then(kv.1,v)else kv).map (·.2)))
   refine .cons ?_ ih
   by_cases e:p.1=k
   ·rw[if_pos e,if_pos e];exact hd
   ·rw[if_neg e,if_neg e];exact h
theorem Zqj{k:κ}{v:V}(kvs:List (κ×V)):(kvs.map fun kv=>if kv.1=k then(kv.1,v)else kv).map (·.1)=kvs.map (·.1):=by
 rw[List.map_map]
 refine List.map_congr_left fun p _=>?_
 show(if p.1=k then(p.1,v)else p).1=p.1
 split<;> rfl
theorem Zns(k:κ)(kvs:List (κ×V)):(kvs.any fun kv=>decide (kv.1=k))=true↔k∈kvs.map (·.1):=by
 rw[List.any_eq_true,List.mem_map]
 constructor
 ·rintro⟨p,h1,h2⟩;exact⟨p,h1,of_decide_eq_true h2⟩
 ·rintro⟨p,h1,h2⟩;exact⟨p,h1,decide_eq_true h2⟩
theorem Znt{F:Hp}{k:κ}{d:D}{v:V}(hd:Rep K F d v)(kvs:List (κ×V))(ds:List D)(r:Reps K F ds (kvs.map (·.2))):
  (putK kvs k v).map (·.1)=(putA (kvs.map (·.1)) ds k d).1∧Reps K F (putA (kvs.map (·.1)) ds k d).2 ((putK kvs k v).map (·.2)):=by
 unfold putK putA
 by_cases h:k∈kvs.map (·.1)
 ·rw[if_pos h,if_pos ((Zns k kvs).mpr h)]
  exact⟨Zqj kvs,Znr hd kvs ds r⟩
 ·rw[if_neg h,if_neg fun z=>h ((Zns k kvs).mp z),List.map_append,List.map_append]
  exact⟨rfl,r.snoc hd⟩
end
theorem Zj4{F H:Hp}{d:D}{k:Key}{y:V}(e:d.key? =some k)(r:RepN K F H d y):y=kV k:=by
 cases d with
 |int i=>cases e;exact r.int
 |str x=>cases e;exact r.str
 |_=>cases e
theorem Zts{F:Hp}{d:D}{k:Key}{y:V}(e:d.key? =some k)(r:Rep K F d y):y=kV k:=Zj4 (H:=F) e (RepN.of r)
theorem Zi2{F:Hp}:∀{ds:List D} {ks:List Key} {vs:List V},keys? ds=some ks→Reps K F ds vs→vs=ks.map kV
 | [],_,_,e,r=>by cases e;cases r;rfl
 |d::ds,_,_,e,r=>by
  cases r with
  |cons h t=>
   obtain⟨k,e1,e2⟩:=Option.bind_eq_some_iff.mp e
   obtain⟨t',e3,e4⟩:=Option.bind_eq_some_iff.mp e2
   cases e4
   rw[Zts e1 h,Zi2 e3 t];rfl
theorem RepN.tupH{F H:Hp}{xs:List D}{v:V}(le:Same F H)(h:RepN K F H (.tup xs) v):∃a vs,v= .ref a∧H a=some (.tup vs)∧Reps K F xs vs:=by
 obtain⟨sv,ns,e,n,sh,hp⟩:=h
 cases sh with
 |fz r=>cases e;cases r with|tup h r=>exact⟨_,_,rfl,le _ _ h,r⟩
 |ol r=>cases e
 |oK e' r=>cases e
 |oT kb e' r=>cases e
 |oN e' r=>cases n
 |oL _ r=>cases n
 |oQ e' r=>cases e
@[simp] noncomputable def getO:D→D→Option (Option D)
 | .dK ks vs,d=>d.key?.bind fun k=>some (look ks vs k)
 | .dT ks vs,.tup xs=>(keys? xs).bind fun k=>some (look ks vs k)
 |_,_=>none
theorem Zhf{F H:Hp}{d1 d2:D}{x y:V}{o:Option D}(le:Same F H)(e:getO d1 d2=some o)(r1:RepN K F H d1 x)(r2:RepN K F H d2 y):
  ∃a,x= .ref a∧IsD H a∧match o with
   |some d=>∃v,DGet H a y (some v)∧Rep K F d v
   |none=>DGet H a y none:=by
 unfold getO at e
 split at e
 ·obtain⟨k,e1,e2⟩:=Option.bind_eq_some_iff.mp e
  obtain⟨a,kvs,rfl,ha,rfl,rr⟩:=r1.dK le
  refine⟨a,rfl,.inl ⟨kvs,ha.rd⟩,?_⟩
  rw[Zj4 e1 r2]
  have z:=Zi1 k kvs _ rr
  have g:=DGet.k (k:=k) ha
  rw[Option.some.inj e2]at z
  cases o with
  |none=>rw[show valV kvs k=none from z]at g;exact g
  |some d=>obtain⟨v,z1,z2⟩:=z;rw[z1]at g;exact⟨v,g,z2⟩
 ·obtain⟨k,e1,e2⟩:=Option.bind_eq_some_iff.mp e
  obtain⟨a,kvs,rfl,ha,rfl,rr⟩:=r1.dT le
  obtain⟨b,vs,rfl,hb,rb⟩:=r2.tupH le
  refine⟨a,rfl,.inr ⟨kvs,ha.rd⟩,?_⟩
  rw[Zi2 e1 rb]at hb
  have z:=Zi1 k kvs _ rr
  have g:=DGet.t ha hb
  rw[Option.some.inj e2]at z
  cases o with
  |none=>rw[show valV kvs k=none from z]at g;exact g
  |some d=>obtain⟨v,z1,z2⟩:=z;rw[z1]at g;exact⟨v,g,z2⟩
 ·cases e
section
variable{Z:Ent K}
@[simp] noncomputable def Ztt(d1 d2:D):Option SV:=(getO d1 d2).bind fun o=>o.bind fun d=>some (.fz d)
theorem Zw8:Z8 Z Z0b Ztt:=by
 intro F H σ δ own x y d1 d2 sv Q s r1 r2 e k
 obtain⟨o,e1,e2⟩:=Option.bind_eq_some_iff.mp e
 obtain⟨d,e3,e4⟩:=Option.bind_eq_some_iff.mp e2
 cases e4
 subst e3
 obtain⟨a,rfl,_,v,g,rv⟩:=Zhf s.le e1 r1 r2
 exact⟨a,v,rfl,g,k.fz s rv⟩
@[simp] noncomputable def inDd(d1 d2:D):Option SV:=(getO d2 d1).bind fun o=>some (.fz (.bl o.isSome))
@[simp] noncomputable def Znu(d1 d2:D):Option SV:=(getO d2 d1).bind fun o=>some (.fz (.bl (!o.isSome)))
theorem Zw9:Z8 Z rDIn inDd:=by
 intro F H σ δ own x y d1 d2 sv Q s r1 r2 e k
 obtain⟨o,e1,e2⟩:=Option.bind_eq_some_iff.mp e
 cases e2
 obtain⟨a,rfl,_,g⟩:=Zhf s.le e1 r2 r1
 cases o with
 |none=>exact⟨a,none,rfl,g,k.fz s (.bl _)⟩
 |some d=>obtain⟨v,g,_⟩:=g;exact⟨a,some v,rfl,g,k.fz s (.bl _)⟩
theorem Znv:Z8 Z Zeh Znu:=by
 intro F H σ δ own x y d1 d2 sv Q s r1 r2 e k
 obtain⟨o,e1,e2⟩:=Option.bind_eq_some_iff.mp e
 cases e2
 obtain⟨a,rfl,_,g⟩:=Zhf s.le e1 r2 r1
 cases o with
 |none=>exact⟨a,none,rfl,g,k.fz s (.bl _)⟩
 |some d=>obtain⟨v,g,_⟩:=g;exact⟨a,some v,rfl,g,k.fz s (.bl _)⟩
@[simp] noncomputable def D.isD:D→Bool
 | .dK _ _=>true| .dT _ _=>true|_=>false
@[simp] noncomputable def ixX(d1 d2:D):Option SV:=if d1.isD=true then Ztt d1 d2 else ixD d1 d2
@[simp] noncomputable def inX(d1 d2:D):Option SV:=if d2.isD=true then inDd d1 d2 else inD d1 d2
@[simp] noncomputable def Znw(d1 d2:D):Option SV:=if d2.isD=true then Znu d1 d2 else Zj2 d1 d2
theorem Znx{H:Hp}{σ:L2.St}{Q:VK}{fa fb:FE}{g g1 g2':D→D→Option SV}(hg:∀d1 d2 sv,g d1 d2=some sv→g1 d1 d2=some sv∨g2' d1 d2=some sv)(h:Zb Z (binF g fa fb) σ H Q):Zb Z (binF g1 fa fb) σ H Q∨Zb Z (binF g2' fa fb) σ H Q:=by
 obtain⟨F,δ,own,rv,δ',s,e,k⟩:=h
 obtain⟨⟨rvs,δ1⟩,e1,e2⟩:=Option.bind_eq_some_iff.mp e
 obtain⟨ds,e3,e4⟩:=Option.bind_eq_some_iff.mp e2
 obtain⟨sv,e5,e6⟩:=Option.bind_eq_some_iff.mp e4
 have:(g2 g1) ds=some sv∨(g2 g2') ds=some sv:=by
  unfold g2 at e5⊢
  split at e5
  ·exact hg _ _ _ e5
  ·cases e5
 rcases this with z|z
 ·exact .inl ⟨F,δ,own,rv,δ',s,Option.bind_eq_some_iff.mpr ⟨_,e1,Option.bind_eq_some_iff.mpr ⟨_,e3,Option.bind_eq_some_iff.mpr ⟨_,z,e6⟩⟩⟩,k⟩
 ·exact .inr ⟨F,δ,own,rv,δ',s,Option.bind_eq_some_iff.mpr ⟨_,e1,Option.bind_eq_some_iff.mpr ⟨_,e3,Option.bind_eq_some_iff.mpr ⟨_,z,e6⟩⟩⟩,k⟩
theorem Z0c:Z8 Z (fun x y H Q=>(∃i j,x= .str i∧y= .str j∧Q (.bl (!(Builtin.Str.occurrences j i 0 j.length 1).isEmpty)) H)∨rDIn x y H Q) inX:=by
 intro F H σ δ own x y d1 d2 sv Q s r1 r2 e k
 unfold inX at e
 split at e
 ·exact .inr (Zw9 F H σ δ own x y d1 d2 sv Q s r1 r2 e k)
 ·exact .inl (p_in F H σ δ own x y d1 d2 sv Q s r1 r2 e k)
theorem Zqk:Z8 Z (fun x y H Q=>(∃i j,x= .str i∧y= .str j∧Q (.bl (!(!(Builtin.Str.occurrences j i 0 j.length 1).isEmpty))) H)∨Zeh x y H Q) Znw:=by
 intro F H σ δ own x y d1 d2 sv Q s r1 r2 e k
 unfold Znw at e
 split at e
 ·exact .inr (Znv F H σ δ own x y d1 d2 sv Q s r1 r2 e k)
 ·exact .inl (Ztn F H σ δ own x y d1 d2 sv Q s r1 r2 e k)
end
section
variable{X:Cx}{Z:Ent X.K}{a b c:Expr}{fa fb fc:FE}{pos:Pos}
theorem Zam(hu:X.A.units+1<cLine)(ha:PE X a (Zb Z fa))(hb:PE X b (Zb Z fb))(hs:Zml b:=by intro _ _;rfl):PE X (.Subscript a b pos) (Zb Z (binF ixX fa fb)):=fun pins s σ H Q I h=>by
 rcases Znx (g1:=Ztt) (g2':=ixD) (fun d1 d2 sv e=>by
  unfold ixX at e
  split at e
  ·exact .inl e
  ·exact .inr e) h with h|h
 ·exact Zms hu ha hb hs pins s σ H Q I (Zm1 Zw8 h)
 ·exact Zv0 Zro ha hb hs pins s σ H Q I (Zm1 p_ix h)
end
end DL
namespace L2
open PySem PySem.Spec PyProof.Rows
variable{X:Cx}
noncomputable def Zr2:V→List V→Hp→VK→Prop:=fun x xs H Q=>∃a,x= .ref a∧((∃y o,xs=[y]∧DGet H a y o∧Q (o.getD .non) H)∨(∃y z o,xs=[y,z]∧DGet H a y o∧Q (o.getD z) H))
theorem Ztu(hu:X.A.units+1<cLine):MtR X "dict.get" Zr2:=by
 intro pins s σ H x xs v us Q I rx rs h
 obtain⟨a,rfl,h⟩:=h
 cases rx
 rcases h with⟨y,o,rfl,g,q⟩|⟨y,z,o,rfl,g,q⟩
 ·obtain⟨u,rfl,ru⟩:=Zcv rs
  exact Zv8 hu I g ru fun w' s' I' r'=>⟨_,H,I',r',q⟩
 ·obtain⟨u,w',rfl,r1,r2⟩:=Zvv rs
  exact Zv9 hu I g r1 r2 fun w' s' I' r'=>⟨_,H,I',r',q⟩
end L2
namespace DL
open PySem PySem.Spec PyProof.Rows L2
variable{K:PySem.W.Frag}
section
variable{Z:Ent K}{H:Hp}{σ:L2.St}{Q:VK}{E:Ends}
@[simp] noncomputable def Zi3:FE:=fun δ=>some (.tmp (.oK [] []),δ)
@[simp] noncomputable def Z3k:FE:=fun δ=>some (.tmp (.oT [] []),δ)
theorem Ztv(h:Zb Z Zi3 σ H Q):Zrr σ H Q:=by
 obtain⟨F,δ,own,rv,δ',s,e,k⟩:=h
 cases e
 intro p hp
 have f:Fin Z F H σ δ own (.oK [] []) Q:=fun v H' F' ns a b c t=>k v H' F' own a b c ⟨ns,t⟩
 exact f.one s (.oK (kvs:=[]) rfl .nil) hp
@[simp] noncomputable def SV.isOD:Option (Option SV)→Bool
 |some (some (.oK _ _))=>true
 |some (some (.oT _ _))=>true
 |some (some (.oQ _ _ _))=>true
 |_=>false
@[simp] noncomputable def putS(kd d:D):Option (Option SV)→Option SV
 |some (some (.oK ks vs))=>kd.key?.bind fun k=>if vs.length<PySem.sizeLine then some (.oK (putA ks vs k d).1 (putA ks vs k d).2)else none
 |some (some (.oT ks vs))=>match kd with
  | .tup xs=>(keys? xs).bind fun k=>if vs.length<PySem.sizeLine then some (.oT (putA ks vs k d).1 (putA ks vs k d).2)else none
  |_=>none
 |some (some (.oQ q ks vs))=>kd.key?.bind fun k=>if vs.length<PySem.sizeLine then some (.oQ q (putA ks vs k d).1 (putA ks vs k d).2)else none
 |_=>none
@[simp] noncomputable def putF(i:Nat)(fk fv:FE):FS:=fun δ=>(fv δ).bind fun p=>(frz p.1 p.2).bind fun q=>if SV.isOD (q.2[i]?)=true then(fk q.2).bind fun r=>(rdv r.1 r.2).bind fun kd=>(putS kd q.1 (r.2[i]?)).bind fun sv=>some (.nx (r.2.set i (some sv)))else none
theorem Zj5{F:Hp}{ks:List Key}{ds:List D}{v:V}{ns:Zk}(h:Shape K F (.oK ks ds) v ns):∃a kvs ep,v= .ref a∧ns=[(a,.dK kvs ep)]∧kvs.map (·.1)=ks∧Reps K F ds (kvs.map (·.2)):=by
 cases h with
 |oK e r=>exact⟨_,_,_,rfl,rfl,e,r⟩
theorem Zj6{F:Hp}{q:Addr}{ks:List Key}{ds:List D}{v:V}{ns:Zk}(h:Shape K F (.oQ q ks ds) v ns):∃kvs ep,v= .ref q∧ns=[(q,.dK kvs ep)]∧kvs.map (·.1)=ks∧Reps K F ds (kvs.map (·.2)):=by
 cases h with
 |oQ e r=>exact⟨_,_,rfl,rfl,e,r⟩
theorem Zql{F:Hp}{ks:List (List Key)}{ds:List D}{v:V}{ns:Zk}(h:Shape K F (.oT ks ds) v ns):∃a kvs ep bs,v= .ref a∧ns=[(a,.dT kvs ep bs)]∧KB F kvs bs∧kvs.map (·.1)=ks∧Reps K F ds (kvs.map (·.2)):=by
 cases h with
 |oT kb e r=>exact⟨_,_,_,_,rfl,rfl,kb,e,r⟩
theorem KB.put{F:Hp}{kvs:List (List Key×V)}{bs:List Addr}{k:List Key}{b:Addr}{v:V}(h:KB F kvs bs)(hb:F b=some (.tup (k.map kV))):KB F (putK kvs k v) (putB kvs bs k b):=by
 unfold putK putB
 split
 ·unfold KB at*
  clear hb
  rename_i hq
  clear hq
  induction h with
  |nil=>exact .nil
  | @cons p c ps cs h1 t ih=>
   rw[List.map_cons]
   refine .cons ?_ ih
   by_cases e:p.1=k
   ·rw[if_pos e];exact h1
   ·rw[if_neg e];exact h1
 ·exact Paired.snoc h hb
theorem RepN.tupF{F H:Hp}{xs:List D}{v:V}(h:RepN K F H (.tup xs) v):∃a vs,v= .ref a∧F a=some (.tup vs)∧Reps K F xs vs:=by
 obtain⟨sv,ns,e,n,sh,hp⟩:=h
 cases sh with
 |fz r=>cases e;cases r with|tup h r=>exact⟨_,_,rfl,h,r⟩
 |ol r=>cases e
 |oK e' r=>cases e
 |oT kb e' r=>cases e
 |oN e' r=>cases n
 |oL _ r=>cases n
 |oQ e' r=>cases e
theorem Ztw{o:Option (Option SV)}(h:SV.isOD o=true):∃sv,o=some (some sv):=by
 unfold SV.isOD at h
 split at h
 ·exact⟨_,rfl⟩
 ·exact⟨_,rfl⟩
 ·exact⟨_,rfl⟩
 ·cases h
theorem Z0d{i:Nat}{fk fv:FE}(h:Zy Z (putF i fk fv) E σ H):Zmr (tVar i) (Zb Z fk) (Zb Z fv) E σ H:=by
 obtain⟨F,δ,own,fl,s,e,k⟩:=h
 obtain⟨⟨rv,δ1⟩,e1,e⟩:=Option.bind_eq_some_iff.mp e
 obtain⟨⟨d,δ2⟩,e2,e⟩:=Option.bind_eq_some_iff.mp e
 dsimp only at e
 split at e
 ·rename_i hod
  obtain⟨⟨rk,δ3⟩,e3,e⟩:=Option.bind_eq_some_iff.mp e
  obtain⟨kd,e4,e⟩:=Option.bind_eq_some_iff.mp e
  obtain⟨sv,e5,e⟩:=Option.bind_eq_some_iff.mp e
  cases e
  refine⟨F,δ,own,rv,δ1,s,e1,fun v H1 F1 own1 sH1 sF1 s1 r1=>?_⟩
  obtain⟨F2,sF2,s2,r2⟩:=s1.settleR r1
  obtain⟨F3,own3,sF3,s3,r3⟩:=s2.frzR r2 e2
  obtain⟨sv0,hsv0⟩:=Ztw hod
  obtain⟨x,hx,_⟩:=s3.at' i sv0 hsv0
  refine⟨x,hx,F3,δ2,own3,rk,δ3,s3,e3,fun y H4 F4 own4 sH4 sF4 s4 r4=>?_⟩
  obtain⟨F5,sF5,s5,r5⟩:=s4.settleR r4
  have rk':=s5.rd r5 e4
  have rd:Rep K F5 d v:=r3.mono (sF4.trans sF5)
  have sF:Same F F5:=sF1.trans (sF2.trans (sF3.trans (sF4.trans sF5)))
  dsimp only at e5
  generalize ho:δ3[i]? =o at e5
  unfold putS at e5
  split at e5
  ·rename_i ks vs
   obtain⟨kk,f1,f2⟩:=Option.bind_eq_some_iff.mp e5
   split at f2
   ·rename_i hz
    cases f2
    obtain⟨x',hx',sh⟩:=s5.at' i _ ho
    rw[hx]at hx';cases hx'
    obtain⟨a,kvs,ep0,ea,en,rfl,rr⟩:=Zj5 sh
    subst ea
    have mb:(a,HO.dK kvs ep0)∈own4 i:=by rw[en];exact List.mem_cons_self
    have hH:=(s5.ok i _ mb).2.2
    have z:=Znt (k:=kk) rd kvs vs rr
    refine⟨a,rfl,?_⟩
    rw[Zj4 f1 rk']
    refine DPut.k ⟨_,hH⟩ (by rw[←rr.length_map];exact hz) fun ep=>?_
    exact k σ _ F5 _ sF (s5.change (sv':=.oK (putA (kvs.map (·.1)) vs kk d).1 (putA (kvs.map (·.1)) vs kk d).2) (o':=.dK (putK kvs kk v) ep) (ns':=[(a,.dK (putK kvs kk v) ep)]) ho hx mb (.oK z.1 z.2) (fun p hp=>.inl (List.mem_singleton.mp hp)) nd1)
   ·cases f2
  ·rename_i ks vs
   split at e5
   ·rename_i xs
    obtain⟨kk,f1,f2⟩:=Option.bind_eq_some_iff.mp e5
    split at f2
    ·rename_i hz
     cases f2
     obtain⟨x',hx',sh⟩:=s5.at' i _ ho
     rw[hx]at hx';cases hx'
     obtain⟨a,kvs,ep0,bs0,ea,en,kb,rfl,rr⟩:=Zql sh
     subst ea
     have mb:(a,HO.dT kvs ep0 bs0)∈own4 i:=by rw[en];exact List.mem_cons_self
     have hH:=(s5.ok i _ mb).2.2
     have z:=Znt (k:=kk) rd kvs vs rr
     obtain⟨b,us,rfl,hbF,rb⟩:=rk'.tupF
     rw[Zi2 f1 rb]at hbF
     refine⟨a,rfl,DPut.t ⟨_,_,hH⟩ (s5.le _ _ hbF) (by rw[←rr.length_map];exact hz) fun ep ep1 bs1 hq=>?_⟩
     rw[hH]at hq
     cases hq
     exact k σ _ F5 _ sF (s5.change (sv':=.oT (putA (kvs.map (·.1)) vs kk d).1 (putA (kvs.map (·.1)) vs kk d).2) (o':=.dT (putK kvs kk v) ep (putB kvs bs0 kk b)) (ns':=[(a,.dT (putK kvs kk v) ep (putB kvs bs0 kk b))]) ho hx mb (.oT (kb.put hbF) z.1 z.2) (fun p hp=>.inl (List.mem_singleton.mp hp)) nd1)
    ·cases f2
   ·cases e5
  ·rename_i q ks vs
   obtain⟨kk,f1,f2⟩:=Option.bind_eq_some_iff.mp e5
   split at f2
   ·rename_i hz
    cases f2
    obtain⟨x',hx',sh⟩:=s5.at' i _ ho
    rw[hx]at hx';cases hx'
    obtain⟨kvs,ep0,ea,en,rfl,rr⟩:=Zj6 sh
    subst ea
    have mb:(q,HO.dK kvs ep0)∈own4 i:=by rw[en];exact List.mem_cons_self
    have hH:=(s5.ok i _ mb).2.2
    have z:=Znt (k:=kk) rd kvs vs rr
    refine⟨q,rfl,?_⟩
    rw[Zj4 f1 rk']
    refine DPut.k ⟨_,hH⟩ (by rw[←rr.length_map];exact hz) fun ep=>?_
    exact k σ _ F5 _ sF (s5.change (sv':=.oQ q (putA (kvs.map (·.1)) vs kk d).1 (putA (kvs.map (·.1)) vs kk d).2) (o':=.dK (putK kvs kk v) ep) (ns':=[(q,.dK (putK kvs kk v) ep)]) ho hx mb (.oQ z.1 z.2) (fun p hp=>.inl (List.mem_singleton.mp hp)) nd1)
   ·cases f2
  ·cases e5
 ·cases e
@[simp] noncomputable def bmDF(T:String)(g:D→List D→Option SV)(fo:FE)(fd:FD):FE:=fun δ=>(fo δ).bind fun p=>(rdv p.1 p.2).bind fun d0=>if tyOk T d0=true then(fd p.2).bind fun q=>(rdv p.1 q.2).bind fun d1=>(g d1 q.1).bind fun sv=>some (.tmp sv,q.2)else none
noncomputable def Zxa(Z:Ent K)(r:V→List V→Hp→VK→Prop)(g:D→List D→Option SV):Prop:=
 ∀(F H:Hp) (σ:L2.St) (δ:DSt) (own:Nat→Zk) (x:V) (d:D) (vs:List V) (ds:List D) (sv:SV) (Q:VK),SR Z F H σ δ own→RepN K F H d x→Reps K F ds vs→g d ds=some sv→Fin Z F H σ δ own sv Q→r x vs H Q
theorem Z0e{T:String}{r:V→List V→Hp→VK→Prop}{g:D→List D→Option SV}{fo:FE}{fd:FD}(hg:Zxa Z r g)(h:Zb Z (bmDF T g fo fd) σ H Q):tBM K T r (Zb Z fo) (Zay Z fd) σ H Q:=by
 obtain⟨F,δ,own,rv,δ',s,e,k⟩:=h
 obtain⟨⟨rv1,δ1⟩,e1,e⟩:=Option.bind_eq_some_iff.mp e
 obtain⟨d0,e2,e⟩:=Option.bind_eq_some_iff.mp e
 dsimp only at e
 split at e
 ·rename_i ht
  obtain⟨⟨ds,δ2⟩,e3,e⟩:=Option.bind_eq_some_iff.mp e
  obtain⟨d1,e4,e⟩:=Option.bind_eq_some_iff.mp e
  obtain⟨sv,e5,e⟩:=Option.bind_eq_some_iff.mp e
  cases e
  refine⟨F,δ,own,rv1,δ1,s,e1,fun v H1 F1 own1 sH1 sF1 s1 r1=>?_⟩
  obtain⟨F1',sF1',s1',r1'⟩:=s1.settleR r1
  refine⟨Zw0 s1'.le (s1'.rd r1' e2) ht,F1',δ1,own1,ds,δ2,s1',e3,fun vs H2 F2 own2 sH2 sF2 s2 r2=>?_⟩
  exact hg F2 H2 σ δ2 own2 v d1 vs ds sv Q s2 (s2.rd (r1'.mono sF2) e4) r2 e5 fun q H4 F4 ns sH4 sF4 s4 t4=>
   k q H4 F4 own2 (sH1.trans (sH2.trans sH4)) (sF1.trans (sF1'.trans (sF2.trans sF4))) s4 ⟨ns,t4⟩
 ·cases e
@[simp] noncomputable def Zhg:D→List D→Option SV
 |d,[y]=>(getO d y).bind fun o=>some (.fz (o.getD .non))
 |d,[y,z]=>(getO d y).bind fun o=>some (.fz (o.getD z))
 |_,_=>none
theorem Ztx:Zxa Z Zr2 Zhg:=by
 intro F H σ δ own x d vs ds sv Q s r1 r2 e k
 unfold Zhg at e
 split at e
 ·obtain⟨o,e1,e2⟩:=Option.bind_eq_some_iff.mp e
  cases e2
  cases r2 with
  |cons h t=>
   cases t
   obtain⟨a,rfl,_,g⟩:=Zhf s.le e1 r1 (RepN.of h)
   cases o with
   |none=>exact⟨a,rfl,.inl ⟨_,none,rfl,g,k.fz s .non⟩⟩
   |some d=>obtain⟨v,g,rv⟩:=g;exact⟨a,rfl,.inl ⟨_,some v,rfl,g,k.fz s rv⟩⟩
 ·obtain⟨o,e1,e2⟩:=Option.bind_eq_some_iff.mp e
  cases e2
  cases r2 with
  |cons h t=>
   cases t with
   |cons h2 t=>
    cases t
    obtain⟨a,rfl,_,g⟩:=Zhf s.le e1 r1 (RepN.of h)
    cases o with
    |none=>exact⟨a,rfl,.inr ⟨_,_,none,rfl,g,k.fz s h2⟩⟩
    |some d=>obtain⟨v,g,rv⟩:=g;exact⟨a,rfl,.inr ⟨_,_,some v,rfl,g,k.fz s rv⟩⟩
 ·cases e
end
section
variable{X:Cx}{Z:Ent X.K}{a b c:Expr}{fa fb fc:FE}{pos:Pos}
theorem Zei:PE X (.Dict [] [] pos) (Zb Z Zi3):=Zpw.imp fun _ _ _ h=>Ztv h
theorem Zr3{apos cpos:Pos}{es:List Expr}{fd:FD}(hu:X.A.units+1<cLine)(ha:PE X a (Zb Z fa))(hb:PA X (b::es) (Zay Z fd))(hbase:attributeBase a "get" X.env (eval a X.env)=eval a X.env:=by rfl)
  (hfew:((backTo cpos (starEach (b::es) X.env)).all (fun x=>!x.1)&&(backToKw cpos (keywordEach [] X.env)).all (fun x=>x.1.isSome)&&decide ((b::es).length+([]:List Keyword).length+(if([]:List Keyword).isEmpty then 0 else 1)<30))=true:=by rfl)
  (hline:(apos.endLine==cpos.line)=true:=by rfl) (hs:starEach (b::es) X.env=(false,eval b X.env)::starEach es X.env:=by rfl) (hpl:(backTo cpos (starEach es X.env)).any (·.1)=false:=by rfl):
  PE X (.Call (.Attribute a "get" apos) (b::es) [] cpos) (Zb Z (bmDF "dict" Zhg fa fd)):=
 (Zgy PySem.F.plainAttrs_dict PySem.F.slot_dict_get PySem.F.type_dict_get (Ztu hu) ha hb hbase hfew hline hs hpl).imp fun _ _ _ h=>Z0e Ztx h
theorem Zqm(i:Nat){x:Str}{px p1:Pos}(hu:X.A.units+1<cLine)(hb:PE X b (Zb Z fb))(hv':PE X a (Zb Z fa))(hN:X.N[i]? =some x:=by rfl)(hv:Vis X.env.scope x:=by first|exact Or.inl rfl|exact Or.inr (Or.inl rfl)|exact Or.inr (Or.inr rfl))(hd:(x==("__debug__":Str))=false:=by decide)
  (hcd:(x==("__classdict__":Str))=false:=by decide) (hs:swapsWith a (some (.Subscript (.Name x px) b p1)) pos.line X.env=pure false:=by rfl):
  PS X (.Assign [.Subscript (.Name x px) b p1] a pos) (Zy Z (putF i fb fa)):=(Zmt hu (Ze5 (i:=i) hN hv hd hcd) hb hv' hs).imp fun _ _ _ h=>Z0d h
end
end DL
namespace L2
open PySem PySem.Spec PyProof.Rows
variable{X:Cx}
noncomputable def Z0f:List V→Hp→VK→Prop:=fun xs H Q=>∃a kvs,xs=[.ref a]∧RdK H a kvs∧∀p ep,H p=none→Q (.ref p) (upd H p (.dK kvs ep))
end L2
namespace DL
open PySem PySem.Spec PyProof.Rows L2
variable{K:PySem.W.Frag}
section
variable{Z:Ent K}{H:Hp}{σ:L2.St}{Q:VK}{E:Ends}
@[simp] noncomputable def Z3l:List D→Option SV
 | [.dK ks vs]=>some (.oK ks vs)
 |_=>none
@[simp] noncomputable def Z2b(k:Str)(i:Nat):FE:=fun δ=>match δ[i]? with
 |some (some sv)=>some (.tmp (.oK [.inr k] [sv.toD]),δ.set i (some (.fz sv.toD)))
 |_=>none
@[simp] noncomputable def Zxb(ks:List Key)(vs:List D)(k:Key):List Key×List D:=(((ks.zip vs).filter fun p=>decide (p.1≠k)).map (·.1),((ks.zip vs).filter fun p=>decide (p.1≠k)).map (·.2))
@[simp] noncomputable def popF(i:Nat)(fk:FE):FS:=fun δ=>match δ[i]? with
 |some (some (.oK _ _))=>(fk δ).bind fun r=>(rdv r.1 r.2).bind fun kd=>kd.key?.bind fun k=>match r.2[i]? with
  |some (some (.oK ks vs))=>if(look ks vs k).isSome=true then some (.nx (r.2.set i (some (.oK (Zxb ks vs k).1 (Zxb ks vs k).2))))else none
  |_=>none
 |_=>none
end
section
variable{X:Cx}{Z:Ent X.K}{a b c:Expr}{fa fb fc:FE}{pos:Pos}
end
end DL
namespace L2
open PySem PySem.Spec PyProof.Rows
section
variable{prog:Program}{w:World}{A:Around}{E:Value→Shared→Prop}{s:Shared}
theorem Zlh{Q:Int→Shared→Prop}(h:Q 0xFCA86420 {s with toks:=s.toks+1}):wpAny (model prog w) A (pyHash .none) Q E s:=by
 have hT:s.TypeIs .none "NoneType":=rfl
 refine PySem.W.pyHash_slot (v:=.none) (Q:=Q) hT F.slot_NoneType_hash F.entry_NoneType_hash (F.args_NoneType_hash_1 _) rfl (.inl rfl) ?_
 show wpAny (model prog w) A.in1 (mkInt 0xFCA86420 >>=fun v=>ret v) _ E s
 refine wpAny_bind (wpAny_mkInt ?_)
 exact wpAny_pure ⟨_,_,rfl,h⟩
end
noncomputable def Zty:Option Key→Value→Bool
 |none,.none=>true
 |none,_=>false
 |some k,v=>Zdv k v
theorem Zz{k:Option Key}{v:Value}(h:Zty k v=true):(k=none∧v= .none)∨∃j,k=some j∧Zdv j v=true:=by
 cases k with
 |none=>cases v<;> first|exact .inl ⟨rfl,rfl⟩|cases h
 |some j=>exact .inr ⟨j,rfl,h⟩
theorem Zfy{j:Key}(h:Zdv j .none=true):False:=by
 rcases Zp h with⟨i,t,_,e⟩|⟨x,t,_,e⟩<;> cases e
noncomputable def Zi4(prog:Program)(w:World):PySem.KeyKind prog w (Option Key)where
 is:=Zty
 hash:=fun|none=>0xFCA86420|some k=>(Zm prog w).hash k
 inj:=fun v a b ha hb=>by
  rcases Zz ha with⟨rfl,rfl⟩|⟨i,rfl,hi⟩
  ·rcases Zz hb with⟨rfl,_⟩|⟨j,rfl,hj⟩
   ·rfl
   ·exact(Zfy hj).elim
  ·rcases Zz hb with⟨rfl,rfl⟩|⟨j,rfl,hj⟩
   ·exact(Zfy hi).elim
   ·rw[(Zm prog w).inj v i j hi hj]
 byValue:=fun k v h=>by
  rcases Zz h with⟨rfl,rfl⟩|⟨i,rfl,hi⟩
  ·rfl
  ·exact(Zm prog w).byValue i v hi
 pyHash:=fun{A E s k v Q} hv h=>by
  rcases Zz hv with⟨rfl,rfl⟩|⟨i,rfl,hi⟩
  ·exact Zlh h
  ·exact(Zm prog w).pyHash hi h
 eqBool:=fun{A E s a b u v Q} hu hv h=>by
  rcases Zz hu with⟨rfl,rfl⟩|⟨i,rfl,hi⟩
  ·rcases Zz hv with⟨rfl,rfl⟩|⟨j,rfl,hj⟩
   ·exact SeqAt.EqAt.same _ _ _ _ _ (by simpa using h)
   ·rw[decide_eq_false (fun z=>nomatch z)]at h
    rcases Zp hj with⟨i,t,rfl,rfl⟩|⟨x,t,rfl,rfl⟩
    ·exact SeqAt.EqAt.none_int i t _ _ _ _ h
    ·exact SeqAt.EqAt.none_str x t _ _ _ _ h
  ·rcases Zz hv with⟨rfl,rfl⟩|⟨j,rfl,hj⟩
   ·rw[decide_eq_false (fun z=>nomatch z)]at h
    rcases Zp hi with⟨i,t,rfl,rfl⟩|⟨x,t,rfl,rfl⟩
    ·exact SeqAt.EqAt.int_none i t _ _ _ _ h
    ·exact SeqAt.EqAt.str_none x t _ _ _ _ h
   ·refine(Zm prog w).eqBool hi hj ?_
    have e:decide (some i=some j)=decide (i=j):=by simp
    rw[←e];exact h
 «strs»:=fun k x t v h=>by
  rcases Zz h with⟨rfl,e⟩|⟨i,rfl,hi⟩
  ·cases e
  ·exact(Zm prog w).strs i x t v hi
variable{X:Cx}
theorem Zny{P:Program}{w:World}{h:Heap}{a:Addr}{vs:List (Key×Value)}(d:h.DictOf (Zm P w) a vs):h.MapOf (Zi4 P w) a (fun|none=>none|some k=>valueAt vs k):=by
 obtain⟨o,es,ep,ho,hc,hd,hk,hf⟩:=d.mapOf
 refine⟨o,es,ep,ho,hc,hd,fun e he=>?_,fun k=>?_⟩
 ·obtain⟨k,h1,h2⟩:=hk e he
  exact⟨some k,h1,h2⟩
 ·cases k with
  |some k=>exact hf k
  |none=>
   show(es.find? fun e=>Zty none e.key).map (·.val)=none
   rw[Array.find?_eq_none.mpr fun e he z=>?_]
   ·rfl
   ·obtain⟨k,h1,_⟩:=hk e he
    rcases Zz z with⟨_,e2⟩|⟨j,e2,_⟩
    ·rw[e2]at h1;exact Zfy h1
    ·cases e2
noncomputable def Zfc(neg:Bool):R2:=fun y x H Q=>∃a kvs,y= .non∧x= .ref a∧RdK H a kvs∧Q (.bl neg) H
theorem Zhh:OpR X (compareOp .In) (Zfc false):=by
 intro pins s σ H y x v u Q I ry rx h
 obtain⟨a,kvs,rfl,rfl,e,q⟩:=h
 cases ry
 cases rx
 obtain⟨z,hd,vs,rel,dd⟩:=Ze1 I.hok e
 exact wpAny_in_of (knd:=Zi4 X.prog X.w) (k:=none) rfl hd (Zny dd) ⟨.bl false,H,I.tok _,rfl,q⟩
theorem Zhi:OpR X (compareOp .NotIn) (Zfc true):=by
 intro pins s σ H y x v u Q I ry rx h
 obtain⟨a,kvs,rfl,rfl,e,q⟩:=h
 cases ry
 cases rx
 obtain⟨z,hd,vs,rel,dd⟩:=Ze1 I.hok e
 exact wpAny_notIn_of (knd:=Zi4 X.prog X.w) (k:=none) rfl hd (Zny dd) ⟨.bl true,H,I.tok _,rfl,q⟩
end L2
namespace L2
open PySem PySem.Spec PyProof.Rows
noncomputable def Zj7(es:Array DictEntry)(kvs:List (Str×Value)):Prop:=es.size=kvs.length∧∀(i:Nat) (p:Str×Value),kvs[i]? =some p→∃e t,es[i]? =some e∧e.key= .str p.1 t∧e.val=p.2
noncomputable def Zfz(h:Heap)(a:Addr)(kvs:List (Str×Value)):Prop:=∃o es ep,h.get? a=some o∧o.ExactDict∧o.data= .dict es ep∧Zj7 es kvs
noncomputable def Zbf(kvs:List (Str×Value))(x:Str):Option Nat:=kvs.findIdx? fun p=>decide (p.1=x)
theorem Zj7.find{es:Array DictEntry}{kvs:List (Str×Value)}(h:Zj7 es kvs)(x:Str):(es.findIdx? fun e=>e.key.isStr x)=Zbf kvs x:=by
 unfold Zbf
 have hA:(es.findIdx? fun e=>e.key.isStr x)=es.toList.findIdx? fun e=>e.key.isStr x:=by obtain⟨l⟩:=es;simp
 rw[hA]
 have:∀(es:List DictEntry) (kvs:List (Str×Value)),es.length=kvs.length→(∀(i:Nat) (p:Str×Value),kvs[i]? =some p→∃e t,es[i]? =some e∧e.key= .str p.1 t∧e.val=p.2)→
   es.findIdx? (fun e=>e.key.isStr x)=kvs.findIdx? fun p=>decide (p.1=x):=by
  intro es
  induction es with
  |nil=>intro kvs hl _;cases kvs with
   |nil=>rfl
   |cons p r=>cases hl
  |cons e es ih=>
   intro kvs hl hp
   cases kvs with
   |nil=>cases hl
   |cons p r=>
    obtain⟨e',t,h1,h2,h3⟩:=hp 0 p rfl
    obtain rfl:e=e':=by simpa using h1
    have hk:e.key.isStr x=decide (p.1=x):=by
     rw[h2]
     show(p.1==x)=_
     by_cases z:p.1=x
     ·rw[z];simp
     ·rw[decide_eq_false z];exact beq_eq_false_iff_ne.mpr z
    rw[List.findIdx?_cons,List.findIdx?_cons,hk,ih r (by simpa using hl) (fun i q hq=>hp (i+1) q (by simpa using hq))]
 exact this es.toList kvs (by rw[Array.length_toList];exact h.1) (fun i p hp=>by
  obtain⟨e,t,h1,h2⟩:=h.2 i p hp
  exact⟨e,t,by rw[Array.getElem?_toList];exact h1,h2⟩)
section
variable{prog:Program}{w:World}{A:Around}{E:Value→Shared→Prop}{s:Shared}
theorem Znz{d:Addr}{o:Obj}{es:Array DictEntry}{ep:Nat}{kvs:List (Str×Value)}{x:Str}{t:Tok}{n:Int}{Q:Option Nat→Shared→Prop}(ho:s.heap.get? d=some o)(hd:o.data= .dict es ep)(hp:Zj7 es kvs)(q:Q (Zbf kvs x) s):
  wpAny (model prog w) A (dictFind d (.str x t) n) Q E s:=by
 have hall:(es.all fun e=>isExactStrKey e.key)=true:=by
  rw[Array.all_eq_true]
  intro i hi
  have hi':i<kvs.length:=by rw[←hp.1];exact hi
  obtain⟨e,t',h1,h2,_⟩:=hp.2 i kvs[i] (by simp[hi'])
  rw[Array.getElem?_eq_getElem hi]at h1
  cases h1
  rw[h2];rfl
 unfold dictFind
 try with_reducible refine wpAny_holding ?_
 refine wpAny_bind (wpAny_dictEntries ho hd ?_)
 dsimp only
 rw[if_pos hall]
 unfold foundByValue
 rw[hp.find x]
 cases hj:Zbf kvs x with
 |none=>rw[hj]at q;exact wpAny_pure q
 |some j=>
  rw[hj]at q
  obtain⟨hlt,hx,_⟩:=List.findIdx?_eq_some_iff_getElem.mp hj
  obtain⟨e,t',h1,h2,h3⟩:=hp.2 j kvs[j] (by simp[hlt])
  have hx':kvs[j].1=x:=of_decide_eq_true hx
  rw[hx']at h2
  dsimp only
  rw[h1]
  dsimp only
  refine wpAny_bind (wpAny_dictEpoch ho hd ?_)
  rw[h2]
  refine wpAny_bind (SeqAt.EqAt.str_str x t' x t prog w _ _ ?_)
  refine wpAny_bind (wpAny_dictEpoch ho hd ?_)
  rw[if_neg (by simp)]
  simp only[beq_self_eq_true,if_true]
  exact wpAny_bind (wpAny_rule (wpAny_pure q))
end
inductive SHits(A:Around)(s:Shared)(kb:List (Str×Value)):List (Str×Value)→Bool→Prop where
 |nil:SHits A s kb [] true
 |miss {k:Str} {v:Value} {r:List (Str×Value)}:Zbf kb k=none→SHits A s kb ((k,v)::r) false
 |hit {k:Str} {v:Value} {r:List (Str×Value)} {j:Nat} {p:Str×Value} {e b:Bool}:Zbf kb k=some j→kb[j]? =some p→SeqAt.EqAt A s v p.2 e→SHits A s kb r b→SHits A s kb ((k,v)::r) (e&&b)
section
variable{prog:Program}{w:World}{A:Around}{E:Value→Shared→Prop}{s:Shared}
theorem Zfd{nm:String}{a b:Addr}{ka kb:List (Str×Value)}{r:Bool}{Q:Bool→Shared→Prop}(ha:(a==sysModules)=false)(hb:(b==sysModules)=false)(da:Zfz s.heap a ka)(db:Zfz s.heap b kb)
  (hits:ka.length=kb.length→SHits A s kb ka r) (q:Q (ka.length==kb.length&&r) s):wpAny (model prog w) A (Builtin.Dict.samePairs nm a b) Q E s:=by
 obtain⟨oa,es,ep,ga,_,dta,pa⟩:=da
 obtain⟨ob,es',ep',gb,_,dtb,pb⟩:=db
 have la:=pa.1
 have lb:=pb.1
 unfold Builtin.Dict.samePairs Builtin.Dict.showsAll
 rw[if_neg (by rw[ha];exact Bool.false_ne_true),if_neg (by rw[hb];exact Bool.false_ne_true)]
 refine wpAny_bind (wpAny_pure (wpAny_bind (wpAny_pure (wpAny_bind (wpAny_dictEntries ga dta ?_)))))
 refine wpAny_bind (wpAny_dictEntries gb dtb ?_)
 by_cases hz:es.size=es'.size
 ·have hl:ka.length=kb.length:=by omega
  have q':Q r s:=by simpa[hl]using q
  have hh:=hits hl
  rw[if_neg (by rw[hz];simp)]
  refine wpAny_bind (wpAny_dictEpoch ga dta (wpAny_bind ?_))
  rw[Std.Legacy.Range.forIn_eq_forIn_range']
  simp only[Std.Legacy.Range.size,Nat.sub_zero,Nat.add_sub_cancel,Nat.div_one]
  refine wpAny_forIn_list _ (fun rest x s'=>s'=s∧x=(none,())∧∃i,rest=List.range' i (es.size- i)∧i≤es.size∧SHits A s kb (ka.drop i) r) _ ?_ ?_ _ _ ⟨rfl,rfl,0,by simp,Nat.zero_le _,hh⟩
  ·rintro x rest y s' ⟨rfl,rfl,i,hr,hi,hS⟩
   have hlt:i<es.size:=by
    rcases Nat.lt_or_ge i es.size with z|z
    ·exact z
    ·rw[Nat.sub_eq_zero_of_le z]at hr;cases hr
   rw[show es.size- i=(es.size- (i+1))+1 by omega,List.range'_succ]at hr
   injection hr with hx hrest
   subst hx
   have hlk:x<ka.length:=by omega
   obtain⟨e,t,h1,h2,h3⟩:=pa.2 x ka[x] (by simp[hlk])
   rw[List.drop_eq_getElem_cons hlk]at hS
   refine wpAny_bind (wpAny_dictEntries ga dta ?_)
   rw[h1]
   show wpAny _ _ (holding [e.key,e.val] _ >>=_) _ _ _
   rw[h2]
   refine wpAny_bind (wpAny_holding (wpAny_bind (Znz gb dtb pb ?_)))
   generalize hk:ka[x]=p at hS h2 h3⊢
   obtain⟨k,v⟩:=p
   cases hS with
   |miss hn=>
    rw[hn]
    refine wpAny_pure ?_
    show wpAny _ _ (if(!false)=true then _ else _) _ _ _
    rw[if_pos (by decide)]
    exact wpAny_pure (wpAny_pure q')
   | @hit _ _ _ j p' eb bb hn hp he hr'=>
    rw[hn]
    obtain⟨f,t',g1,g2,g3⟩:=pb.2 j p' hp
    refine wpAny_bind (wpAny_dictEntries gb dtb ?_)
    rw[g1]
    rw[show e.val=v from h3]
    dsimp only
    rw[g3]
    refine wpAny_holding (he prog w _ _ ?_)
    cases eb with
    |false=>
     rw[Bool.false_and]at q'
     show wpAny _ _ (if(!false)=true then _ else _) _ _ _
     rw[if_pos (by decide)]
     exact wpAny_pure (wpAny_pure q')
    |true=>
     show wpAny _ _ (if(!true)=true then _ else _) _ _ _
     rw[if_neg (by decide)]
     refine wpAny_bind (wpAny_dictEpoch ga dta ?_)
     rw[if_neg (by simp)]
     exact wpAny_pure ⟨rfl,rfl,x+1,hrest,hlt,by rw[Bool.true_and];exact hr'⟩
  ·rintro x s' ⟨rfl,rfl,i,hr,hi,hS⟩
   have e:i=es.size:=by
    rcases Nat.lt_or_ge i es.size with z|z
    ·rw[show es.size- i=(es.size- (i+1))+1 by omega,List.range'_succ]at hr;cases hr
    ·omega
   rw[e,la,List.drop_length]at hS
   cases hS
   exact wpAny_pure q'
 ·rw[if_pos (by simpa using hz)]
  have hf:(ka.length==kb.length)=false:=by rw[←la,←lb];simpa using hz
  rw[hf,Bool.false_and]at q
  exact wpAny_bind (wpAny_rule (wpAny_pure q))
end
section
variable{A:Around}{s:Shared}{a b:Addr}{ka kb:List (Str×Value)}{r:Bool}
theorem Zfz.typeIs(d:Zfz s.heap a ka):s.TypeIs (.ref a) "dict":=let⟨o,_,_,ho,hc,_⟩:=d;⟨o,ho,hc.1⟩
theorem Zj8(ha:(a==sysModules)=false)(hb:(b==sysModules)=false)(da:Zfz s.heap a ka)(db:Zfz s.heap b kb)(hu:A.units<cLine)(hits:ka.length=kb.length→SHits A.in1 s kb ka r):SeqAt.RcAt A s (.ref a) (.ref b) (ka.length==kb.length&&r):=fun prog w E Q q=>by
 refine wpAny_richCompare_same_room (op:=.Eq) da.typeIs db.typeIs PySem.F.slot_dict_eq (wpAny_call_entry PySem.F.slot_dict_eq da.typeIs PySem.F.entry_dict_eq ?_ (PySem.F.args_dict_eq_2 _ _)) hu;show wpAny _ _ (Builtin.Dict.dictSlotArgs "__eq__" ⟨[.ref a,.ref b],[]⟩>>=_) _ _ s
 refine wpAny_bind ?_;unfold Builtin.Dict.dictSlotArgs;refine wpAny_bind (wpAny_notOrdered_dict da.typeIs ?_);show wpAny _ _ (pure (Value.ref a,Value.ref b)) _ _ s
 refine wpAny_pure (wpAny_bind (wpAny_isInstance (T:="dict") db.typeIs PySem.F.sub_dict_dict ?_));simp only[Bool.not_true,Bool.false_eq_true,if_false]
 refine wpAny_bind (wpAny_pure (wpAny_bind (wpAny_pure (wpAny_bind (Zfd ha hb da db hits ?_)))))
 exact wpAny_pure ⟨_,rfl,(fun x=>nomatch x),by simpa using q⟩
theorem Zfe(ha:(a==sysModules)=false)(hb:(b==sysModules)=false)(da:Zfz s.heap a ka)(db:Zfz s.heap b kb)(hu:A.units<cLine)(hits:ka.length=kb.length→SHits A.in1 s kb ka r):SeqAt.RcNeAt A s (.ref a) (.ref b) (!(ka.length==kb.length&&r)):=fun prog w E Q q=>by
 refine wpAny_richCompare_same_room (op:=.NotEq) da.typeIs db.typeIs PySem.F.slot_dict_ne (wpAny_call_entry PySem.F.slot_dict_ne da.typeIs PySem.F.entry_dict_ne ?_ (PySem.F.args_dict_ne_2 _ _)) hu;show wpAny _ _ (Builtin.Dict.dictSlotArgs "__ne__" ⟨[.ref a,.ref b],[]⟩>>=_) _ _ s
 refine wpAny_bind ?_;unfold Builtin.Dict.dictSlotArgs;refine wpAny_bind (wpAny_notOrdered_dict da.typeIs ?_);show wpAny _ _ (pure (Value.ref a,Value.ref b)) _ _ s
 refine wpAny_pure (wpAny_bind (wpAny_isInstance (T:="dict") db.typeIs PySem.F.sub_dict_dict ?_));simp only[Bool.not_true,Bool.false_eq_true,if_false]
 refine wpAny_bind (wpAny_pure (wpAny_bind (wpAny_pure (wpAny_bind (Zfd ha hb da db hits ?_)))))
 exact wpAny_pure ⟨_,rfl,(fun x=>nomatch x),by simpa using q⟩
end
end L2
namespace DL
open PySem PySem.Spec PyProof.Rows L2
variable{K:PySem.W.Frag}
@[simp] noncomputable def strK?:List Key→Option (List Str)
 | []=>some []
 | .inr x::r=>(strK? r).bind fun t=>some (x::t)
 |_=>none
@[simp] noncomputable def eqKV(f:D→D→Option Bool)(ys:List Str)(us:List D):List Str→List D→Option Bool
 |x::xs,v::vs=>match look ys us x with
  |none=>some false
  |some u=>(f v u).bind fun b=>(eqKV f ys us xs vs).bind fun c=>some (b&&c)
 |_,_=>some true
@[simp] noncomputable def Zej(f:D→D→Option Bool):D→D→Option Bool
 | .dK ks vs,.dK ks' vs'=>(strK? ks).bind fun xs=>(strK? ks').bind fun ys=>if xs.length=ys.length then eqKV f ys vs' xs vs else some false
 |d1,d2=>Zec f d1 d2
@[simp] noncomputable def eqM:Nat→D→D→Option Bool
 |0=>fun _ _=>none
 |n+1=>Zej (eqM n)
theorem Zn0{P:Program}{w:World}:∀{es:List DictEntry} {kvs:List (Key×Value)} {xs:List Str},Pairs (Zm P w) es kvs→strK? (kvs.map (·.1))=some xs→
  ∃skv:List (Str×Value),skv.map (·.1)=xs∧skv.map (·.2)=kvs.map (·.2)∧es.length=skv.length∧∀(i:Nat) (p:Str×Value),skv[i]? =some p→∃e t,es[i]? =some e∧e.key= .str p.1 t∧e.val=p.2
 |_,_,_,.nil,e=>by cases e;exact⟨[],rfl,rfl,rfl,fun i p h=>by simp at h⟩
 |_,_,_,@Pairs.cons _ _ _ _ _ en kv es kvs hi hv t,e=>by
  obtain⟨k,v⟩:=kv
  cases k with
  |inl i=>cases e
  |inr x=>
   have e:(strK? (kvs.map (·.1))).bind (fun t=>some (x::t))=some _:=e
   obtain⟨xs,e1,e2⟩:=Option.bind_eq_some_iff.mp e
   cases e2
   obtain⟨skv,h1,h2,h3,h4⟩:=Zn0 t e1
   refine⟨(x,v)::skv,by rw[List.map_cons,h1],by rw[List.map_cons,List.map_cons,h2],by rw[List.length_cons,List.length_cons,h3],fun i p hp=>?_⟩
   cases i with
   |zero=>
    obtain rfl:(x,v)=p:=by simpa using hp
    rcases Zp (show Zdv (.inr x) en.key=true from hi)with⟨j,t',e3,_⟩|⟨y,t',e3,e4⟩
    ·cases e3
    ·cases e3;exact⟨en,t',rfl,e4,hv⟩
   |succ i=>exact h4 i p (by simpa using hp)
theorem Zi5:∀{kvs:List (Key×V)} {vs:List (Key×Value)},KV kvs vs→vs.map (·.1)=kvs.map (·.1)∧Vals (kvs.map (·.2)) (vs.map (·.2))
 |_,_,.nil=>⟨rfl,.nil⟩
 |_,_,.cons h t=>⟨by rw[List.map_cons,List.map_cons,h.1,(Zi5 t).1],.cons h.2 (Zi5 t).2⟩
section
variable{X:Cx}{pins:List (Addr×Obj)}{σ:L2.St}{F H:Hp}{s:Shared}
theorem Zf0(I:Inv X pins σ H s){a:Addr}{kvs:List (Key×V)}{xs:List Str}(ha:HK H a kvs)(e:strK? (kvs.map (·.1))=some xs):
  (a==sysModules)=false∧∃skv:List (Str×Value),Zfz s.heap a skv∧skv.map (·.1)=xs∧Vals (kvs.map (·.2)) (skv.map (·.2))∧(kvs.map (·.1)).Nodup:=by
 obtain⟨z,hd,vs,rel,dd⟩:=Zv5 I.hok ha
 obtain⟨k1,k2⟩:=Zi5 rel
 obtain⟨o,es,ep,ho,hc,hdt,_,hp,nd⟩:=dd
 rw[←k1]at e
 obtain⟨skv,h1,h2,h3,h4⟩:=Zn0 hp e
 refine⟨hd,skv,⟨o,es,ep,ho,hc,hdt,by rw[←h3];simp,fun i p hpp=>?_⟩,h1,by rw[h2];exact k2,by rw[←k1];exact nd⟩
 obtain⟨en,t,g1,g2⟩:=h4 i p hpp
 exact⟨en,t,by rw[←Array.getElem?_toList];exact g1,g2⟩
theorem Zdc(x:Str):∀(skv:List (Str×Value)) (us:List D) (Us:List V),Reps X.K F us Us→Vals Us (skv.map (·.2))→match look (skv.map (·.1)) us x with
  |none=>Zbf skv x=none
  |some u=>∃j p U,Zbf skv x=some j∧skv[j]? =some p∧Rep X.K F u U∧RelV U p.2
 | [],_,_,r,v=>by cases v;cases r;rfl
 |p::skv,_,_,r,v=>by
  cases v with
  | @cons U u' Us us' hU tU=>
  cases r with
  | @cons d v' ds vs' h t=>
   have ih:=Zdc x skv ds Us t tU
   show match(if p.1=x then some d else look (skv.map (·.1)) ds x)with
    |none=>Zbf (p::skv) x=none
    |some u=>∃j q U,Zbf (p::skv) x=some j∧(p::skv)[j]? =some q∧Rep X.K F u U∧RelV U q.2
   have hpl:Zbf (p::skv) x=if p.1=x then some 0 else(Zbf skv x).map (· +1):=by
    unfold Zbf
    rw[List.findIdx?_cons]
    by_cases e:p.1=x<;> simp[e]
   by_cases e:p.1=x
   ·rw[if_pos e,hpl,if_pos e]
    exact⟨0,p,U,rfl,rfl,h,hU⟩
   ·rw[if_neg e,hpl,if_neg e]
    cases hl:look (skv.map (·.1)) ds x with
    |none=>rw[hl]at ih;dsimp only at ih⊢;rw[ih];rfl
    |some u=>
     rw[hl]at ih
     obtain⟨j,q,U',h1,h2,h3,h4⟩:=ih
     exact⟨j+1,q,U',by rw[h1];rfl,by simpa using h2,h3,h4⟩
theorem Zn1{A:Around}{f:D→D→Option Bool}(ih:∀d1 d2 b x y v u,Rep X.K F d1 x→RelV x v→Rep X.K F d2 y→RelV y u→f d1 d2=some b→SeqAt.EqAt A s v u b){skv2:List (Str×Value)}{us:List D}{Us:List V}(ru:Reps X.K F us Us)(vu:Vals Us (skv2.map (·.2))):
  ∀(skv:List (Str×Value)) (vs:List D) (Vs:List V) (r:Bool),Reps X.K F vs Vs→Vals Vs (skv.map (·.2))→eqKV f (skv2.map (·.1)) us (skv.map (·.1)) vs=some r→SHits A s skv2 skv r
 | [],_,_,_,r,v,e=>by cases v;cases r;cases e;exact .nil
 |p::skv,_,_,_,r,v,e=>by
  obtain⟨k,w⟩:=p
  cases v with
  | @cons V0 u' Vs us' hV tV=>
  cases r with
  | @cons d v' ds vs' h t=>
   have lp:=Zdc (X:=X) (F:=F) k skv2 us Us ru vu
   have e:(match look (skv2.map (·.1)) us k with
    |none=>some false
    |some u=>(f d u).bind fun b=>(eqKV f (skv2.map (·.1)) us (skv.map (·.1)) ds).bind fun c=>some (b&&c))=some _:=e
   cases hl:look (skv2.map (·.1)) us k with
   |none=>
    rw[hl]at lp e
    cases e
    exact .miss lp
   |some u=>
    rw[hl]at lp e
    obtain⟨j,q,U,h1,h2,h3,h4⟩:=lp
    obtain⟨b,e1,e2⟩:=Option.bind_eq_some_iff.mp e
    obtain⟨c,e3,e4⟩:=Option.bind_eq_some_iff.mp e2
    cases e4
    exact .hit h1 h2 (ih _ _ _ _ _ _ _ h hV h3 h4 e1) (Zn1 ih ru vu skv ds Vs c t tV e3)
end
end DL
namespace DL
open PySem PySem.Spec PyProof.Rows L2
variable{K:PySem.W.Frag}
theorem Zhj:∀(skv:List (Str×Value)),(skv.map (·.1)).Nodup→∀q∈skv,∃j,Zbf skv q.1=some j∧skv[j]? =some q
 | [],_,_,h=>nomatch h
 |p::r,nd,q,h=>by
  obtain⟨n1,n2⟩:=List.nodup_cons.mp nd
  have hpl:Zbf (p::r) q.1=if p.1=q.1 then some 0 else(Zbf r q.1).map (· +1):=by
   unfold Zbf
   rw[List.findIdx?_cons]
   by_cases e:p.1=q.1<;> simp[e]
  rcases List.mem_cons.mp h with e|e
  ·subst e;exact⟨0,by rw[hpl,if_pos rfl],rfl⟩
  ·obtain⟨j,h1,h2⟩:=Zhj r n2 q e
   have hne:¬p.1=q.1:=fun z=>n1 (List.mem_map.mpr ⟨q,e,z.symm⟩)
   exact⟨j+1,by rw[hpl,if_neg hne,h1];rfl,by simpa using h2⟩
theorem Zj9:∀{ks:List Key} {xs:List Str},strK? ks=some xs→ks=xs.map Sum.inr
 | [],_,e=>by cases e;rfl
 | .inr x::ks,_,e=>by
  obtain⟨t,e1,e2⟩:=Option.bind_eq_some_iff.mp e
  cases e2
  rw[Zj9 e1];rfl
 | .inl i::ks,_,e=>by cases e
theorem Zli{ks:List Key}{xs:List Str}(e:strK? ks=some xs)(nd:ks.Nodup):xs.Nodup:=by
 rw[Zj9 e]at nd
 have z:(xs.map Sum.inr:List Key).Pairwise (· ≠ ·):=nd
 rw[List.pairwise_map]at z
 exact z.imp fun h e=>h (by rw[e])
section
variable{X:Cx}{pins:List (Addr×Obj)}{σ:L2.St}{F H:Hp}{s:Shared}
theorem Zhk{f:D→D→Option Bool}(ih:∀(d1 d2:D) (b:Bool) (x y:V) (v:Value),Rep X.K F d1 x→RelV x v→Rep X.K F d2 y→RelV y v→f d1 d2=some b→b=true){skv:List (Str×Value)}{us:List D}{Us:List V}(ru:Reps X.K F us Us)(vu:Vals Us (skv.map (·.2))):
  ∀(skv1:List (Str×Value)) (vs:List D) (Vs:List V) (r:Bool),(∀q∈skv1,∃j,Zbf skv q.1=some j∧skv[j]? =some q)→Reps X.K F vs Vs→Vals Vs (skv1.map (·.2))→eqKV f (skv.map (·.1)) us (skv1.map (·.1)) vs=some r→r=true
 | [],_,_,_,_,r,v,e=>by cases v;cases r;cases e;rfl
 |p::skv1,_,_,_,hs,r,v,e=>by
  obtain⟨k,w⟩:=p
  cases v with
  | @cons V0 u' Vs us' hV tV=>
  cases r with
  | @cons d v' ds vs' h t=>
   have lp:=Zdc (X:=X) (F:=F) k skv us Us ru vu
   obtain⟨j,hj1,hj2⟩:=hs (k,w) List.mem_cons_self
   have e:(match look (skv.map (·.1)) us k with
    |none=>some false
    |some u=>(f d u).bind fun b=>(eqKV f (skv.map (·.1)) us (skv1.map (·.1)) ds).bind fun c=>some (b&&c))=some _:=e
   cases hl:look (skv.map (·.1)) us k with
   |none=>
    rw[hl]at lp
    rw[show Zbf skv k=some j from hj1]at lp
    cases lp
   |some u=>
    rw[hl]at lp e
    obtain⟨j',q,U,h1,h2,h3,h4⟩:=lp
    rw[show Zbf skv k=some j from hj1]at h1
    cases h1
    rw[hj2]at h2
    cases h2
    obtain⟨b,e1,e2⟩:=Option.bind_eq_some_iff.mp e
    obtain⟨c,e3,e4⟩:=Option.bind_eq_some_iff.mp e2
    cases e4
    rw[ih _ _ _ _ _ _ h hV h3 h4 e1,Zhk ih ru vu skv1 ds Vs c (fun q hq=>hs q (List.mem_cons_of_mem _ hq)) t tV e3];rfl
theorem Zf1(I:Inv X pins σ H s)(le:Same F H):∀(n:Nat) (d1 d2:D) (b:Bool) (x y:V) (v:Value),Rep X.K F d1 x→RelV x v→Rep X.K F d2 y→RelV y v→eqM n d1 d2=some b→b=true
 |0,_,_,_,_,_,_,_,_,_,_,e=>by cases e
 |n+1,d1,d2,b,x,y,v,r1,v1,r2,v2,e=>by
  unfold eqM Zej at e
  split at e
  ·cases r1 with
   | @dK a ks ds kvs ep1 h1 e1 rr1=>
   cases r2 with
   | @dK a' ks' ds' kvs' ep2 h2 e2 rr2=>
   cases v1
   cases(show Value.ref a=Value.ref a' from v2)
   rw[h1]at h2
   cases h2
   subst e1 e2
   obtain⟨xs,f1,e⟩:=Option.bind_eq_some_iff.mp e
   obtain⟨ys,f2,e⟩:=Option.bind_eq_some_iff.mp e
   rw[f1]at f2
   cases f2
   rw[if_pos rfl]at e
   obtain⟨_,skv,_,hk,hv,nd⟩:=Zf0 I ⟨_,le _ _ h1⟩ f1
   have ndx:=Zli f1 nd
   rw[←hk]at e ndx
   exact Zhk (Zf1 I le n) rr2 hv skv _ _ b (Zhj skv ndx) rr1 hv e
  ·exact Znl I le (Zf1 I le n) d1 d2 b x y v r1 v1 r2 v2 e
theorem rcM(I:Inv X pins σ H s)(le:Same F H){A:Around}{f:D→D→Option Bool}{d1 d2:D}{b:Bool}{x y:V}{v u:Value}
  (ih:∀d1 d2 b x y v u,Rep X.K F d1 x→RelV x v→Rep X.K F d2 y→RelV y u→f d1 d2=some b→SeqAt.EqAt A.in1 s v u b) (r1:RepN X.K F H d1 x) (v1:RelV x v) (r2:RepN X.K F H d2 y) (v2:RelV y u)
  (e:Zej f d1 d2=some b) (hu:A.units<cLine) (hr:Z7 x=false∨Z7 y=false):(∃a c,v= .ref a∧u= .ref c)∧SeqAt.RcAt A s v u b∧SeqAt.RcNeAt A s v u (!b):=by
 unfold Zej at e
 split at e
 ·obtain⟨a1,kvs1,rfl,ha1,rfl,rr1⟩:=r1.dK le
  obtain⟨a2,kvs2,rfl,ha2,rfl,rr2⟩:=r2.dK le
  cases v1;cases v2
  obtain⟨xs,f1,e⟩:=Option.bind_eq_some_iff.mp e
  obtain⟨ys,f2,e⟩:=Option.bind_eq_some_iff.mp e
  obtain⟨m1,skv1,sd1,hk1,hv1,_⟩:=Zf0 I ha1 f1
  obtain⟨m2,skv2,sd2,hk2,hv2,_⟩:=Zf0 I ha2 f2
  have l1:skv1.length=xs.length:=by rw[←hk1,List.length_map]
  have l2:skv2.length=ys.length:=by rw[←hk2,List.length_map]
  refine⟨⟨_,_,rfl,rfl⟩,?_⟩
  split at e
  ·rename_i hl
   rw[←hk1,←hk2]at e
   have hits:skv1.length=skv2.length→SHits A.in1 s skv2 skv1 b:=fun _=>Zn1 ih rr2 hv2 skv1 _ _ b rr1 hv1 e
   have hb:b=(skv1.length==skv2.length&&b):=by rw[l1,l2,hl];simp
   rw[hb]
   exact⟨Zj8 m1 m2 sd1 sd2 hu hits,Zfe m1 m2 sd1 sd2 hu hits⟩
  ·rename_i hl
   cases e
   have hits:skv1.length=skv2.length→SHits A.in1 s skv2 skv1 false:=fun z=>absurd (by omega) hl
   have hb:false=(skv1.length==skv2.length&&false):=by simp
   rw[hb]
   exact⟨Zj8 m1 m2 sd1 sd2 hu hits,Zfe m1 m2 sd1 sd2 hu hits⟩
 ·exact rcN I le ih r1 v1 r2 v2 e hu hr
theorem Zn2(I:Inv X pins σ H s)(le:Same F H):∀(n:Nat) (A:Around) (d1 d2:D) (b:Bool) (x y:V) (v u:Value),A.units+n<cLine→Rep X.K F d1 x→RelV x v→Rep X.K F d2 y→RelV y u→eqM n d1 d2=some b→SeqAt.EqAt A s v u b
 |0,_,_,_,_,_,_,_,_,_,_,_,_,_,e=>by cases e
 |n+1,A,d1,d2,b,x,y,v,u,hu,r1,v1,r2,v2,e=>by
  by_cases hf:Z7 x=true∧Z7 y=true
  ·have e':eqS d1 d2=some b:=by
    unfold eqM Zej at e
    split at e
    ·cases r1;cases hf.1
    ·unfold Zec at e
     split at e
     ·cases r1;cases hf.1
     ·cases r1;cases hf.1
     ·cases r1;cases hf.1
     ·cases r1;cases hf.1
     ·exact e
   obtain⟨f1,f2,rfl⟩:=Zfv (H:=H) e' (RepN.of r1) (RepN.of r2)
   exact Zrp v1 v2 f1 f2
  ·have hf':Z7 x=false∨Z7 y=false:=by
    cases h1:Z7 x with
    |false=>exact .inl rfl
    |true=>cases h2:Z7 y with
     |false=>exact .inr rfl
     |true=>exact absurd ⟨h1,h2⟩ hf
   obtain⟨⟨a,c,rfl,rfl⟩,h1,_⟩:=rcM I le (A:=A) (f:=eqM n) (fun d1 d2 b x y v u q1 w1 q2 w2 e=>Zn2 I le n A.in1 d1 d2 b x y v u (by have:A.in1.units=A.units+1:=rfl;omega) q1 w1 q2 w2 e) (RepN.of r1) v1 (RepN.of r2) v2 e (by omega) hf'
   by_cases hac:a=c
   ·subst hac
    rw[Zf1 I le (n+1) d1 d2 b x y _ r1 v1 r2 v2 e]
    exact SeqAt.EqAt.same _
   ·exact SeqAt.EqAt.of_refs hac h1
noncomputable def rEqM(K:PySem.W.Frag)(neg:Bool):R2:=fun x y H Q=>∃F d1 d2 b,Same F H∧RepN K F H d1 x∧RepN K F H d2 y∧eqM 48 d1 d2=some b∧(Z7 x=false∨Z7 y=false)∧Q (.bl (if neg then !b else b)) H
theorem Zr4(hu:X.A.units+64<cLine):OpR X (compareOp .Eq) (rEqM X.K false):=by
 intro pins s σ H x y v u Q I rx ry h
 obtain⟨F,d1,d2,b,le,r1,r2,e,hf,q⟩:=h
 obtain⟨_,h1,_⟩:=rcM I le (A:=X.A) (f:=eqM 47) (fun d1 d2 b x y v u q1 w1 q2 w2 e=>Zn2 I le 47 X.A.in1 d1 d2 b x y v u (by have:X.A.in1.units=X.A.units+1:=rfl;omega) q1 w1 q2 w2 e) r1 rx r2 ry e (by omega) hf
 exact h1 X.prog X.w X.xe _ ⟨.bl b,H,I,rfl,q⟩
theorem Zxc(hu:X.A.units+64<cLine):OpR X (compareOp .NotEq) (rEqM X.K true):=by
 intro pins s σ H x y v u Q I rx ry h
 obtain⟨F,d1,d2,b,le,r1,r2,e,hf,q⟩:=h
 obtain⟨_,_,h1⟩:=rcM I le (A:=X.A) (f:=eqM 47) (fun d1 d2 b x y v u q1 w1 q2 w2 e=>Zn2 I le 47 X.A.in1 d1 d2 b x y v u (by have:X.A.in1.units=X.A.units+1:=rfl;omega) q1 w1 q2 w2 e) r1 rx r2 ry e (by omega) hf
 exact h1 X.prog X.w X.xe _ ⟨.bl !b,H,I,rfl,q⟩
end
end DL
namespace DL
open PySem PySem.Spec PyProof.Rows L2
variable{K:PySem.W.Frag}
@[simp] noncomputable def eqY(d1 d2:D):Option SV:=if d1.isFlat=true∧d2.isFlat=true then eqD d1 d2 else(eqM 48 d1 d2).bind fun b=>some (.fz (.bl b))
@[simp] noncomputable def neY(d1 d2:D):Option SV:=if d1.isFlat=true∧d2.isFlat=true then neD d1 d2 else(eqM 48 d1 d2).bind fun b=>some (.fz (.bl !b))
@[simp] noncomputable def inY(d1 d2:D):Option SV:=match d1,d2 with
 | .non,.dK _ _=>some (.fz (.bl false))
 |_,_=>inX d1 d2
@[simp] noncomputable def Zn3(d1 d2:D):Option SV:=match d1,d2 with
 | .non,.dK _ _=>some (.fz (.bl true))
 |_,_=>Znw d1 d2
section
variable{Z:Ent K}
theorem Zn4{F H:Hp}{d1 d2:D}{x y:V}(r1:RepN K F H d1 x)(r2:RepN K F H d2 y)(hf:¬(d1.isFlat=true∧d2.isFlat=true)):Z7 x=false∨Z7 y=false:=by
 cases h1:d1.isFlat with
 |false=>exact .inl (Zfa r1 h1)
 |true=>cases h2:d2.isFlat with
  |false=>exact .inr (Zfa r2 h2)
  |true=>exact absurd ⟨h1,h2⟩ hf
theorem Zxd:Z8 Z (fun x y H Q=>rEq x y H Q∨rEqM K false x y H Q) eqY:=by
 intro F H σ δ own x y d1 d2 sv Q s r1 r2 e k
 unfold eqY at e
 split at e
 ·exact .inl (p_eq F H σ δ own x y d1 d2 sv Q s r1 r2 e k)
 ·rename_i hf
  obtain⟨b,e1,e2⟩:=Option.bind_eq_some_iff.mp e
  cases e2
  exact .inr ⟨F,d1,d2,b,s.le,r1,r2,e1,Zn4 r1 r2 hf,k.fz s (.bl _)⟩
theorem Z0g:Z8 Z (fun x y H Q=>rNe x y H Q∨rEqM K true x y H Q) neY:=by
 intro F H σ δ own x y d1 d2 sv Q s r1 r2 e k
 unfold neY at e
 split at e
 ·exact .inl (p_ne F H σ δ own x y d1 d2 sv Q s r1 r2 e k)
 ·rename_i hf
  obtain⟨b,e1,e2⟩:=Option.bind_eq_some_iff.mp e
  cases e2
  exact .inr ⟨F,d1,d2,b,s.le,r1,r2,e1,Zn4 r1 r2 hf,k.fz s (.bl _)⟩
theorem Z0h:Z8 Z (fun x y H Q=>((∃i j,x= .str i∧y= .str j∧Q (.bl (!(Builtin.Str.occurrences j i 0 j.length 1).isEmpty)) H)∨rDIn x y H Q)∨Zfc false x y H Q) inY:=by
 intro F H σ δ own x y d1 d2 sv Q s r1 r2 e k
 unfold inY at e
 split at e
 ·cases e
  obtain⟨a,kvs,rfl,ha,_,_⟩:=r2.dK s.le
  exact .inr ⟨a,kvs,r1.non,rfl,ha.rd,k.fz s (.bl _)⟩
 ·exact .inl (Z0c F H σ δ own x y d1 d2 sv Q s r1 r2 e k)
theorem Zqn:Z8 Z (fun x y H Q=>((∃i j,x= .str i∧y= .str j∧Q (.bl (!(!(Builtin.Str.occurrences j i 0 j.length 1).isEmpty))) H)∨Zeh x y H Q)∨Zfc true x y H Q) Zn3:=by
 intro F H σ δ own x y d1 d2 sv Q s r1 r2 e k
 unfold Zn3 at e
 split at e
 ·cases e
  obtain⟨a,kvs,rfl,ha,_,_⟩:=r2.dK s.le
  exact .inr ⟨a,kvs,r1.non,rfl,ha.rd,k.fz s (.bl _)⟩
 ·exact .inl (Zqk F H σ δ own x y d1 d2 sv Q s r1 r2 e k)
end
section
variable{X:Cx}{Z:Ent X.K}{a b c:Expr}{fa fb fc:FE}{pos:Pos}
theorem Ztz(hv:X.A.units+64<cLine)(ha:PE X a (Zb Z fa))(hb:PE X b (Zb Z fb)):PE X (.Compare a [.Eq] [b] pos) (Zb Z (binF eqY fa fb)):=Zth (Zvr.or (Zr4 hv)) Zxd ha hb (Zgm _)
theorem Zt0(hv:X.A.units+64<cLine)(ha:PE X a (Zb Z fa))(hb:PE X b (Zb Z fb)):PT X (.Compare a [.Eq] [b] pos) (Zaf Z (Zai (binF eqY fa fb))):=Znb (Zvr.or (Zr4 hv)) Zxd ha hb (Zgm _)
theorem Zxe(hv:X.A.units+64<cLine)(ha:PE X a (Zb Z fa))(hb:PE X b (Zb Z fb)):PT X (.Compare a [.NotEq] [b] pos) (Zaf Z (Zai (binF neY fa fb))):=Znb (Zze.or (Zxc hv)) Z0g ha hb (Zgm _)
end
end DL
namespace DL
open PySem PySem.Spec PyProof.Rows L2
variable{K:PySem.W.Frag}
section
variable{Z:Ent K}{H:Hp}{σ:L2.St}{Q:VK}{E:Ends}
@[simp] noncomputable def Z3m:FE:=fun δ=>some (.tmp (.oN [] []),δ)
@[simp] noncomputable def Z3n(i j:Nat):FS:=fun δ=>match δ[i]?,δ[j]? with
 |some (some (.oN ks xss)),some (some (.fz kd))=>kd.key?.bind fun k=>if(ks.any fun x=>decide (x=k))=false∧xss.length<PySem.sizeLine then some (.nx (δ.set i (some (.oN (ks++[k]) (xss++[[]])))))else none
 |_,_=>none
end
@[simp] noncomputable def Zr5:List Key→Key→Option Nat
 | [],_=>none
 |a::r,k=>if a=k then some 0 else(Zr5 r k).map (· +1)
section
variable{Z:Ent K}{H:Hp}{σ:L2.St}{Q:VK}{E:Ends}
@[simp] noncomputable def Z3o(i j:Nat)(fe:FE):FS:=fun δ=>match δ[i]?,δ[j]? with
 |some (some (.oN ks _)),some (some (.fz kd))=>kd.key?.bind fun k=>(Zr5 ks k).bind fun p=>(fe δ).bind fun q=>(frz q.1 q.2).bind fun r=>match r.2[i]? with
  |some (some (.oN ks' xss))=>if ks'=ks then(xss[p]?).bind fun xs=>if xs.length<PySem.sizeLine then some (.nx (r.2.set i (some (.oN ks (xss.set p (xs++[r.1]))))))else none else none
  |_=>none
 |_,_=>none
end
end DL
namespace DL
open PySem PySem.Spec PyProof.Rows L2
variable{K:PySem.W.Frag}
section
variable{Z:Ent K}{H:Hp}{σ:L2.St}{E:Ends}
@[simp] noncomputable def retZ(fe:FE):FS:=fun δ=>(fe δ).bind fun p=>(frz p.1 p.2).bind fun q=>some (.rt (.fz q.1))
end
section
variable{X:Cx}{Z:Ent X.K}{a b c:Expr}{fa fb fc:FE}{pos:Pos}
end
end DL
namespace L2
open PySem PySem.Spec PyProof.Rows
variable{X:Cx}
noncomputable def Z0i(K:PySem.W.Frag):V→List V→Hp→VK→Prop:=fun x xs H Q=>∃p ys y j,x= .ref p∧xs=[y]∧SqL K H p ys∧Z7 y=true∧ys.all Z7=true∧(ys.findIdx? fun z=>eqV z y)=some j∧Q (.int (j:Nat)) H
noncomputable def Z0j:V→List V→Hp→VK→Prop:=fun x xs H Q=>∃a b i rest,x= .str a∧xs=[.str b]∧Builtin.Str.occurrences a b 0 a.length 1=i::rest∧Q (.int (i:Nat)) H
noncomputable def Z0k:V→List V→Hp→VK→Prop:=fun x xs H Q=>∃a b,x= .str a∧xs=[.str b]∧a.length≤sizeLine∧Q (.str (Txt.rstripChars a b)) H
noncomputable def Zxf:R2:=fun x y H Q=>∃a k,x= .str a∧y= .int k∧MulOk a k∧Q (.str (Txt.mul a k)) H
theorem Zt1:OpR X (binaryOp .Mult) Zxf:=by
 intro pins s σ H x y v u Q I rx ry h
 obtain⟨a,k,rfl,rfl,hm,q⟩:=h
 obtain⟨t,rfl⟩:=rx
 obtain⟨t',rfl⟩:=ry
 exact SB.mul hm fun t' k=>⟨.str _,H,I.tok _,⟨_,rfl⟩,q⟩
end L2
namespace DL
open PySem PySem.Spec PyProof.Rows L2
variable{K:PySem.W.Frag}
@[simp] noncomputable def D.fv:D→V
 | .bl b=>.bl b
 | .int i=>.int i
 | .str x=>.str x
 |_=>.non
theorem Zt2{F H:Hp}{d:D}{x:V}(r:RepN K F H d x)(h:d.isFlat=true):x=d.fv∧Z7 x=true:=by
 cases d with
 |non=>rw[r.non];exact⟨rfl,rfl⟩
 |bl b=>rw[r.bl];exact⟨rfl,rfl⟩
 |int i=>rw[r.int];exact⟨rfl,rfl⟩
 |str y=>rw[r.str];exact⟨rfl,rfl⟩
 |_=>cases h
theorem Zn5{F:Hp}:∀{ds:List D} {vs:List V},Reps K F ds vs→ds.all D.isFlat=true→vs=ds.map D.fv∧vs.all Z7=true
 |_,_,.nil,_=>⟨rfl,rfl⟩
 |_,_,.cons h t,e=>by
  rw[List.all_cons,Bool.and_eq_true]at e
  obtain⟨a1,a2⟩:=Zt2 (H:=F) (RepN.of h) e.1
  obtain⟨b1,b2⟩:=Zn5 t e.2
  refine⟨by rw[List.map_cons,←a1,←b1],by rw[List.all_cons,a2,b2];rfl⟩
noncomputable def eqFl(y x:D):Bool:=eqV y.fv x.fv
@[simp] theorem Zka(a b:Str):eqFl (.str a) (.str b)=decide (a=b):=by
 show(a==b)=decide (a=b)
 by_cases h:a=b
 ·subst h;simp
 ·rw[decide_eq_false h];exact beq_eq_false_iff_ne.mpr h
@[simp] theorem Z0l(a b:Bool):eqFl (.bl a) (.bl b)=decide (a=b):=by cases a<;> cases b<;> rfl
@[simp] theorem Zy0:eqFl .non .non=true:=rfl
@[simp] theorem Z0m(a:Str):eqFl (.str a) .non=false:=rfl
noncomputable def inFl(x:D)(xs:List D):Bool:=xs.any fun y=>eqFl y x
theorem Zn6{d:D}{ds:List D}:inV d.fv (ds.map D.fv)=inFl d ds:=by
 unfold inV inFl
 rw[List.any_map];rfl
noncomputable def D.seq?:D→Option (List D)
 | .lst xs=>some xs
 | .tup xs=>some xs
 |_=>none
@[simp] theorem Z0n(xs:List D):D.seq? (.lst xs)=some xs:=rfl
@[simp] theorem Z0o(xs:List D):D.seq? (.tup xs)=some xs:=rfl
@[simp] theorem Z0p(x:Str):D.seq? (.str x)=none:=rfl
@[simp] theorem Z2c(ks:List Key)(vs:List D):D.seq? (.dK ks vs)=none:=rfl
@[simp] theorem Z2d(ks:List (List Key))(vs:List D):D.seq? (.dT ks vs)=none:=rfl
@[simp] noncomputable def inZ(d1 d2:D):Option SV:=match d2.seq? with
 |some xs=>if d1.isFlat=true∧xs.all D.isFlat=true then some (.fz (.bl (inFl d1 xs)))else none
 |none=>inY d1 d2
@[simp] noncomputable def Zkb(d1 d2:D):Option SV:=match d2.seq? with
 |some xs=>if d1.isFlat=true∧xs.all D.isFlat=true then some (.fz (.bl (!inFl d1 xs)))else none
 |none=>Zn3 d1 d2
section
variable{Z:Ent K}{H:Hp}{σ:L2.St}{Q:VK}{E:Ends}
theorem Zr6{F:Hp}{d:D}{x:V}{xs:List D}(le:Same F H)(r:RepN K F H d x)(h:d.seq? =some xs):∃a vs,x= .ref a∧(SqL K H a vs∨SqT K H a vs)∧Reps K F xs vs:=by
 cases d with
 |lst ys=>cases h;obtain⟨a,vs,e,q,rr⟩:=r.lst le;exact⟨a,vs,e,.inl q,rr⟩
 |tup ys=>cases h;obtain⟨a,vs,e,q,rr⟩:=r.tup le;exact⟨a,vs,e,.inr q,rr⟩
 |_=>cases h
theorem Zxg:Z8 Z (fun x y H Q=>(((∃i j,x= .str i∧y= .str j∧Q (.bl (!(Builtin.Str.occurrences j i 0 j.length 1).isEmpty)) H)∨rDIn x y H Q)∨Zfc false x y H Q)∨rIn K false x y H Q) inZ:=by
 intro F H σ δ own x y d1 d2 sv Q s r1 r2 e k
 unfold inZ at e
 split at e
 ·rename_i xs hx
  split at e
  ·rename_i hf
   cases e
   obtain⟨a,vs,rfl,hq,rr⟩:=Zr6 s.le r2 hx
   obtain⟨e1,f1⟩:=Zt2 r1 hf.1
   obtain⟨e2,f2⟩:=Zn5 rr hf.2
   refine .inr ⟨a,vs,rfl,hq,f1,f2,?_⟩
   rw[e1,e2,Zn6]
   exact k.fz s (.bl _)
  ·cases e
 ·exact .inl (Z0h F H σ δ own x y d1 d2 sv Q s r1 r2 e k)
theorem Zqo:Z8 Z (fun x y H Q=>(((∃i j,x= .str i∧y= .str j∧Q (.bl (!(!(Builtin.Str.occurrences j i 0 j.length 1).isEmpty))) H)∨Zeh x y H Q)∨Zfc true x y H Q)∨rIn K true x y H Q) Zkb:=by
 intro F H σ δ own x y d1 d2 sv Q s r1 r2 e k
 unfold Zkb at e
 split at e
 ·rename_i xs hx
  split at e
  ·rename_i hf
   cases e
   obtain⟨a,vs,rfl,hq,rr⟩:=Zr6 s.le r2 hx
   obtain⟨e1,f1⟩:=Zt2 r1 hf.1
   obtain⟨e2,f2⟩:=Zn5 rr hf.2
   refine .inr ⟨a,vs,rfl,hq,f1,f2,?_⟩
   rw[e1,e2,Zn6]
   exact k.fz s (.bl _)
  ·cases e
 ·exact .inl (Zqn F H σ δ own x y d1 d2 sv Q s r1 r2 e k)
@[simp] noncomputable def Z2e:List D→Option SV
 | [.lst xs,x]=>if x.isFlat=true∧xs.all D.isFlat=true then(xs.findIdx? fun y=>eqFl y x).bind fun j=>some (.fz (.int (j:Nat)))else none
 |_=>none
@[simp] noncomputable def Z0q:List D→Option SV
 | [.str a,.str b]=>match Builtin.Str.occurrences a b 0 a.length 1 with
  |i::_=>some (.fz (.int (i:Nat)))
  | []=>none
 |_=>none
@[simp] noncomputable def Z0r:List D→Option SV
 | [.str a,.str b]=>if a.length≤PySem.sizeLine then some (.fz (.str (Txt.rstripChars a b)))else none
 |_=>none
open Classical in
noncomputable def mulS(a:Str)(k:Int):Option SV:=if MulOk a k then some (.fz (.str (Txt.mul a k)))else none
theorem Zt3{a:Str}{k:Int}{sv:SV}(h:mulS a k=some sv):MulOk a k∧sv= .fz (.str (Txt.mul a k)):=by
 unfold mulS at h
 split at h
 ·rename_i hm;cases h;exact⟨hm,rfl⟩
 ·cases h
noncomputable def Zt4(i j:Int):Prop:=cMul i j=true
open Classical in
noncomputable def mulI(i j:Int):Option SV:=if Zt4 i j then some (.fz (.int (i*j)))else none
theorem Zt5{i j:Int}{sv:SV}(h:mulI i j=some sv):mulD (.int i) (.int j)=some sv:=by
 unfold mulI at h
 split at h
 ·rename_i hc
  cases h
  unfold Zt4 at hc
  simp[hc]
 ·cases h
theorem Zkc{i j:Int}(h:-(2^64)<j∧j<2^64):mulI i j=some (.fz (.int (i*j))):=by
 unfold mulI
 rw[if_pos]
 unfold Zt4 cMul
 rw[decide_eq_true h.1,decide_eq_true h.2];simp
noncomputable def mulZ:D→D→Option SV
 | .str a,.int k=>mulS a k
 | .int i,.int j=>mulI i j
 |_,_=>none
@[simp] theorem Z0s(a:Str)(k:Int):mulZ (.str a) (.int k)=mulS a k:=rfl
@[simp] theorem Z0t(i j:Int):mulZ (.int i) (.int j)=mulI i j:=rfl
theorem Zxh:Z8 Z (fun x y H Q=>rI CMul (fun i j=>V.int (i*j)) x y H Q∨Zxf x y H Q) mulZ:=by
 intro F H σ δ own x y d1 d2 sv Q s r1 r2 e k
 unfold mulZ at e
 split at e
 ·obtain⟨hm,rfl⟩:=Zt3 e
  exact .inr ⟨_,_,r1.str,r2.int,hm,k.fz s (.str _)⟩
 ·exact .inl (Zz1 F H σ δ own x y _ _ sv Q s r1 r2 (Zt5 e) k)
 ·cases e
@[simp] noncomputable def strD:List D→Option SV
 | [.int i]=>if i.natAbs.log2<1920 then some (.fz (.str (toString i)))else none
 |_=>none
@[simp] noncomputable def Z0u(kd d:D):Option (Option SV)→Option SV
 |some (some (.ol xs))=>match kd with
  | .int i=>(ixN xs.length i).bind fun j=>some (.ol (xs.set j d))
  |_=>none
 |_=>none
@[simp] noncomputable def SV.isOL:Option (Option SV)→Bool
 |some (some (.ol _))=>true
 |_=>false
@[simp] noncomputable def Z3p(i:Nat)(fk fv:FE):FS:=fun δ=>(fv δ).bind fun p=>(frz p.1 p.2).bind fun q=>if SV.isOL (q.2[i]?)=true then(fk q.2).bind fun r=>(rdv r.1 r.2).bind fun kd=>(Z0u kd q.1 (r.2[i]?)).bind fun sv=>some (.nx (r.2.set i (some sv)))else none
@[simp] noncomputable def SV.ol?:RV→Option (List D)
 | .tmp (.ol ys)=>some ys
 |_=>none
@[simp] noncomputable def extF(i:Nat)(fe:FE):FS:=fun δ=>match δ[i]? with
 |some (some (.ol _))=>(fe δ).bind fun p=>(SV.ol? p.1).bind fun ys=>match p.2[i]? with
  |some (some (.ol xs))=>if xs.length+ys.length≤PySem.sizeLine then some (.nx (p.2.set i (some (.ol (xs++ys)))))else none
  |_=>none
 |_=>none
theorem ol?_ok{rv:RV}{ys:List D}(h:SV.ol? rv=some ys):rv= .tmp (.ol ys):=by
 unfold SV.ol? at h
 split at h
 ·cases h;rfl
 ·cases h
theorem Z0v{i:Nat}{fe:FE}(h:Zy Z (extF i fe) E σ H):Zpm (tBM K "list" Zmm (tVar i) (Zk9 (Zb Z fe) tNil)) E σ H:=by
 obtain⟨F,δ,own,fl,s,e,k⟩:=h
 unfold extF at e
 split at e
 ·rename_i xs0 hx0
  obtain⟨⟨rv,δ1⟩,e1,e2⟩:=Option.bind_eq_some_iff.mp e
  obtain⟨ys,e3,e4⟩:=Option.bind_eq_some_iff.mp e2
  obtain⟨v,hv,sh⟩:=s.at' i _ hx0
  obtain⟨a,vs0,ev,en,r0⟩:=Za0 sh
  refine⟨v,hv,?_,F,δ,own,rv,δ1,s,e1,fun y H1 F1 own1 sH sF s1 r1=>?_⟩
  ·subst ev
   exact .inl ⟨rfl,vs0,.inl (.inl (s.ok i (a,.lst vs0) (by rw[en];exact List.mem_cons_self)).2.2)⟩
  have e5:=ol?_ok e3
  dsimp only at e5 e4
  subst e5
  obtain⟨ns,t⟩:=r1
  obtain⟨c,us,ec,ens,ru⟩:=Za0 t.sh
  have hc:H1 c=some (.lst us):=(t.ok (c,.lst us) (by rw[ens];exact List.mem_cons_self)).2.2
  split at e4
  ·rename_i xs hx
   split at e4
   ·rename_i hz
    cases e4
    obtain⟨v',hv',sh'⟩:=s1.at' i _ hx
    rw[hv]at hv';cases hv'
    obtain⟨b,vs,eb,en',r'⟩:=Za0 sh'
    have mb:(b,HO.lst vs)∈own1 i:=by rw[en'];exact List.mem_cons_self
    subst eb
    refine⟨b,c,vs,us,rfl,by rw[ec],(s1.ok i _ mb).2.2,hc,by rw[←r'.length,←ru.length];exact hz,?_⟩
    exact k σ _ F1 _ sF (s1.change (sv':=.ol (xs++ys)) (o':=.lst (vs++us)) (ns':=[(b,.lst (vs++us))]) hx hv mb (.ol (r'.append ru)) (fun p hp=>.inl (List.mem_singleton.mp hp)) nd1)
   ·cases e4
  ·cases e4
 ·cases e
end
section
variable{X:Cx}{Z:Ent X.K}{a b c:Expr}{fa fb fc:FE}{pos:Pos}
theorem Z0w(hu:X.A.units+1<cLine)(ha:PE X a (Zb Z fa))(hb:PE X b (Zb Z fb))(hm:behindInMarks .In b=false:=by rfl):PE X (.Compare a [.In] [b] pos) (Zb Z (binF inZ fa fb)):=Zth (((Zgl.or (Zfb hu)).or Zhh).or Zgt) Zxg ha hb hm
theorem Zqp(hu:X.A.units+1<cLine)(ha:PE X a (Zb Z fa))(hb:PE X b (Zb Z fb))(hm:behindInMarks .NotIn b=false:=by rfl):PE X (.Compare a [.NotIn] [b] pos) (Zb Z (binF Zkb fa fb)):=Zth (((Zgv.or (Zfx hu)).or Zhi).or Zgu) Zqo ha hb hm
theorem Z0x(hu:X.A.units+1<cLine)(ha:PE X a (Zb Z fa))(hb:PE X b (Zb Z fb))(hm:behindInMarks .In b=false:=by rfl):PT X (.Compare a [.In] [b] pos) (Zaf Z (Zai (binF inZ fa fb))):=Znb (((Zgl.or (Zfb hu)).or Zhh).or Zgt) Zxg ha hb hm
theorem Zkd(ha:PE X a (Zb Z fa))(hb:PE X b (Zb Z fb)):PE X (.BinOp a .Mult b pos) (Zb Z (binF mulZ fa fb)):=Zp8 (Zvp.or Zt1) Zxh ha hb
theorem Z0y(i:Nat){x:Str}{px apos cpos:Pos}(hb:PE X b (Zb Z fb))(hN:X.N[i]? =some x:=by rfl)(hv:Vis X.env.scope x:=by first|exact Or.inl rfl|exact Or.inr (Or.inl rfl)|exact Or.inr (Or.inr rfl))(hd:(x==("__debug__":Str))=false:=by decide)
  (hcd:(x==("__classdict__":Str))=false:=by decide) (hbase:attributeBase (.Name x px) "extend" X.env (eval (.Name x px) X.env)=eval (.Name x px) X.env:=by rfl)
  (hfew:((backTo cpos (starEach [b] X.env)).all (fun x=>!x.1)&&(backToKw cpos (keywordEach [] X.env)).all (fun x=>x.1.isSome)&&decide ([b].length+([]:List Keyword).length+(if([]:List Keyword).isEmpty then 0 else 1)<30))=true:=by rfl)
  (hline:(apos.endLine==cpos.line)=true:=by rfl) (hs:starEach [b] X.env=(false,eval b X.env)::starEach [] X.env:=by rfl) (hpl:(backTo cpos (starEach [] X.env)).any (·.1)=false:=by rfl) (hsw:swapsWith (.Call (.Attribute (.Name x px) "extend" apos) [b] [] cpos) none pos.line X.env=pure false:=by rfl):
  PS X (.Expr (.Call (.Attribute (.Name x px) "extend" apos) [b] [] cpos) pos) (Zy Z (extF i fb)):=
 (Zif (Zgy PySem.F.plainAttrs_list PySem.F.slot_list_extend PySem.F.type_list_extend Zmn (Ze5 (i:=i) hN hv hd hcd) (Zba hb Zdy hs) hbase hfew hline hs hpl) hsw).imp fun _ _ _ h=>Z0v h
end
end DL
namespace DL
open PySem PySem.Spec PyProof.Rows L2
end DL
namespace DL
open PySem PySem.Spec PyProof.Rows L2
variable{K:PySem.W.Frag}
section
variable{Z:Ent K}{H:Hp}{σ:L2.St}{Q:Bool→Hp→Prop}
@[simp] noncomputable def Z3q(f:FT):FT:=fun δ=>(f δ).bind fun p=>some (p.1,δ)
end
section
variable{X:Cx}{Z:Ent X.K}{a:Expr}{ft:FT}
end
end DL
namespace DL
open PySem PySem.Spec PyProof.Rows L2
variable{K:PySem.W.Frag}
noncomputable def repP(n:Nat)(k:Int):Prop:=-(2^63)≤k∧k<2^63∧n*k.toNat≤PySem.sizeLine
section
variable{Z:Ent K}{H:Hp}{σ:L2.St}{Q:VK}
open Classical in
noncomputable def repI(xs:List D):D→Option SV
 | .int k=>if repP xs.length k then some (.ol (List.replicate k.toNat xs).flatten)else none
 |_=>none
@[simp] theorem Zy1{xs:List D}{k:Int}(h:repP xs.length k):repI xs (.int k)=some (.ol (List.replicate k.toNat xs).flatten):=by
 unfold repI;dsimp only;rw[if_pos h]
@[simp] noncomputable def repF(fa fb:FE):FE:=fun δ=>(fa δ).bind fun p=>(SV.ol? p.1).bind fun xs=>(fb p.2).bind fun q=>(rdv q.1 q.2).bind fun d=>(repI xs d).bind fun sv=>some (.tmp sv,q.2)
end
section
variable{X:Cx}{Z:Ent X.K}{a b:Expr}{fa fb:FE}{pos:Pos}
end
end DL
namespace DL
open PySem PySem.Spec PyProof.Rows L2
variable{K:PySem.W.Frag}
section
variable{Z:Ent K}
@[simp] noncomputable def slT:D→Option Int→Option Int→Option SV
 | .tup xs,lo,hi=>if¬(HT.sIx xs.length 0 lo=0∧HT.sIx xs.length xs.length hi=xs.length)then some (.fz (.tup (cutD xs lo hi)))else none
 |_,_,_=>none
end
section
variable{X:Cx}{Z:Ent X.K}{a:Expr}{fa:FE}{pos:Pos}
end
end DL
namespace DL
open PySem L2
variable{K:PySem.W.Frag}
inductive RX where
 |v (rv:RV) (δ:DSt)|x (e:Exn) (δ:DSt)
inductive RL(α:Type)where
 |v (xs:List α) (δ:DSt)|x (e:Exn) (δ:DSt)
noncomputable abbrev FX:=DSt→Option RX
noncomputable abbrev FAX:=DSt→Option (RL RV)
noncomputable abbrev FDX:=DSt→Option (RL D)
noncomputable def XOk(Z:Ent K)(F:Hp)(σ:St)(e:Exn)(δ:DSt):Prop:=∀H' F' own' cls od,Same F F'→SR Z F' H' σ δ own'→Zju K F' e cls od→Z.x cls od σ H'
noncomputable def Z0z(Z:Ent K)(f:FX):TE:=fun σ H Q=>∃F δ own r,SR Z F H σ δ own∧f δ=some r∧match r with
 | .v rv δ'=>∀v H' F' own',Same H H'→Same F F'→SR Z F' H' σ δ' own'→Zmy Z F' H' σ own' rv v→Q v H'
 | .x e δ'=>XOk Z F σ e δ'
noncomputable def Z2f(Z:Ent K)(f:FAX):TA:=fun σ H Q=>∃F δ own r,SR Z F H σ δ own∧f δ=some r∧match r with
 | .v rvs δ'=>∀vs H' F' own',Same H H'→Same F F'→SR Z F' H' σ δ' own'→RVSs K F' σ rvs vs→Q vs H'
 | .x e δ'=>XOk Z F σ e δ'
noncomputable def Z2g(Z:Ent K)(f:FDX):TA:=fun σ H Q=>∃F δ own r,SR Z F H σ δ own∧f δ=some r∧match r with
 | .v ds δ'=>∀vs H' F' own',Same H H'→Same F F'→SR Z F' H' σ δ' own'→Reps K F' ds vs→Q vs H'
 | .x e δ'=>XOk Z F σ e δ'
@[simp] noncomputable def FX.val(f:FX):FE:=fun δ=>match f δ with
 |some (.v rv δ')=>some (rv,δ')
 |_=>none
section
variable{Z:Ent K}{H:Hp}{σ:St}{Q:VK}{E:Ends}
@[simp] noncomputable def Z3r(fe:FE):FX:=fun δ=>(fe δ).bind fun p=>some (.v p.1 p.2)
@[simp] noncomputable def Z00:FAX:=fun δ=>some (.v [] δ)
@[simp] noncomputable def Zy2(fx:FX)(fa:FAX):FAX:=fun δ=>(fx δ).bind fun
 | .v rv δ1=>(fa δ1).bind fun
  | .v rvs δ2=>some (.v (rv::rvs) δ2)
  | .x e δ2=>some (.x e δ2)
 | .x e δ1=>some (.x e δ1)
@[simp] noncomputable def Zy3:FDX:=fun δ=>some (.v [] δ)
@[simp] noncomputable def Zxi(fx:FX)(fd:FDX):FDX:=fun δ=>(fx δ).bind fun
 | .v rv δ1=>(frz rv δ1).bind fun q=>(fd q.2).bind fun
  | .v ds δ2=>some (.v (q.1::ds) δ2)
  | .x e δ2=>some (.x e δ2)
 | .x e δ1=>some (.x e δ1)
@[simp] noncomputable def tupX(fd:FDX):FX:=fun δ=>(fd δ).bind fun
 | .v ds δ1=>if ds.length≤PySem.sizeLine then some (.v (.tmp (.fz (.tup ds))) δ1)else none
 | .x e δ1=>some (.x e δ1)
@[simp] noncomputable def Z3s(g:List D→Option SV)(fa:FAX):FX:=fun δ=>(fa δ).bind fun
 | .v rvs δ1=>(Zcl rvs δ1).bind fun ds=>(g ds).bind fun sv=>some (.v (.tmp sv) δ1)
 | .x e δ1=>some (.x e δ1)
@[simp] noncomputable def binX(g:D→D→Option SV)(fa fb:FX):FX:=fun δ=>(fa δ).bind fun
 | .x e δ1=>some (.x e δ1)
 | .v r1 δ1=>(fb δ1).bind fun
  | .x e δ2=>some (.x e δ2)
  | .v r2 δ2=>(rdv r1 δ2).bind fun d1=>(rdv r2 δ2).bind fun d2=>(g d1 d2).bind fun sv=>some (.v (.tmp sv) δ2)
end
inductive XO where
 |v (sv:SV)|x (e:Exn)
noncomputable def spX(K:PySem.W.Frag)(n:Nat)(g:List D→Option XO):Sp:=fun vs H Q E=>∃F ds o,Same F H∧Reps K F ds vs∧ds.length=n∧g ds=some o∧match o with
 | .v sv=>∀v H' F' ns,Same H H'→Same F F'→Same F' H'→(∀(b:Addr) (o:HO),F' b=some o→F b=some o∨H b=none)→Shape K F' sv v ns→(adr ns).Nodup→(∀p∈ns,F' p.1=none∧H p.1=none∧H' p.1=some p.2)→Q v H'
 | .x e=>∀cls od H' F',Same H H'→Same F F'→Same F' H'→(∀(b:Addr) (o:HO),F' b=some o→F b=some o∨H b=none)→Zju K F' e cls od→E cls od H'
@[simp] noncomputable def outX(f:FS)(n:Nat)(ds:List D):Option XO:=match f (Zdl n ds)with
 |some (.rt sv)=>some (.v sv)
 |some (.nx _)=>some (.v (.fz .non))
 |some (.ex e _)=>some (.x e)
 |_=>none
@[simp] noncomputable def valG(h:List D→Option XO)(ds:List D):Option SV:=match h ds with
 |some (.v sv)=>some sv
 |_=>none
noncomputable abbrev entX(H F:Hp)(E:XK):Ent K:=⟨H,F,fun cls od _ H'=>E cls od H'⟩
section
variable{Z:Ent K}{H:Hp}{σ:St}{Q:VK}{E:Ends}
@[simp] noncomputable def Z3t(n:Nat)(g:List D→Option XO)(fa:FAX):FX:=fun δ=>(fa δ).bind fun
 | .x e δ1=>some (.x e δ1)
 | .v rvs δ1=>(DL.frzAll rvs δ1).bind fun q=>if q.1.length=n then(g q.1).bind (fun
  | .v sv=>some (.v (.tmp sv) (if sv.scal then δ1 else q.2))
  | .x e=>some (.x e q.2))else none
@[simp] noncomputable def Z2h(g:List D→Option SV)(ds:List D):Option XO:=(g ds).bind fun sv=>some (.v sv)
@[simp] noncomputable def setX(i:Nat)(fx:FX):FS:=fun δ=>(fx δ).bind fun
 | .v rv δ1=>(stow i rv δ1).bind fun δ'=>some (.nx δ')
 | .x e δ1=>some (.ex e δ1)
@[simp] noncomputable def retX(fx:FX):FS:=fun δ=>(fx δ).bind fun
 | .v rv δ1=>(outF rv δ1).bind fun sv=>some (.rt sv)
 | .x e δ1=>some (.ex e δ1)
@[simp] noncomputable def Z3u(fx:FX):FS:=fun δ=>(fx δ).bind fun
 | .v _ δ1=>some (.nx δ1)
 | .x e δ1=>some (.ex e δ1)
@[simp] noncomputable def appX(i:Nat)(fx:FX):FS:=fun δ=>match fx δ with
 |some (.x e δ1)=>(match δ[i]? with
  |some (some (.ol _))=>some (.ex e δ1)
  |_=>none)
 |_=>appF i fx.val δ
@[simp] noncomputable def extX(i:Nat)(fx:FX):FS:=fun δ=>match fx δ with
 |some (.x e δ1)=>(match δ[i]? with
  |some (some (.ol _))=>some (.ex e δ1)
  |_=>none)
 |_=>extF i fx.val δ
@[simp] noncomputable def Z2i(c:Str):FS:=fun δ=>some (.ex ⟨c,[],[]⟩ δ)
set_option genInjectivity false in
structure HX where
 x:Str
 np:Pos
 nm:Option (Str×Nat)
 b0:Stmt
 suite:List Stmt
 pos:Pos
 B:Addr
 yes:List Str
 no:List Str
 f:FS
set_option genInjectivity false in
structure HX.Sub(K:PySem.W.Frag)(h:HX):Prop where
 yes:∀c∈h.yes,∀C,Zio K c C→PySem.W.mroIn K C (.ref h.B)=some true
 no:∀c∈h.no,∀C,Zio K c C→PySem.W.mroIn K C (.ref h.B)=some false
noncomputable def HX.hd(Z:Ent K)(h:HX):Hd:=⟨h.x,h.np,h.nm,h.b0,h.suite,h.pos,h.B,Zy Z h.f⟩
set_option genInjectivity false in
structure HF where
 i:Option Nat
 yes:List Str
 no:List Str
 f:FS
@[simp] noncomputable def HX.hf(h:HX):HF:=⟨h.nm.map (·.2),h.yes,h.no,h.f⟩
@[simp] noncomputable def Zxj(c:Str):List HF→Option HF
 | []=>none
 |h::r=>if c∈h.yes then some h else if c∈h.no then Zxj c r else none
@[simp] noncomputable def Fl.but(i:Nat):Fl→Fl
 | .nx δ=>.nx (δ.set i none)
 | .bk δ=>.bk (δ.set i none)
 | .ct δ=>.ct (δ.set i none)
 | .ex e δ=>.ex e (δ.set i none)
 | .rt sv=>.rt sv
@[simp] noncomputable def Fl.isEx:Fl→Bool
 | .ex _ _=>true
 |_=>false
@[simp] noncomputable def HF.run(h:HF)(x:Exn)(δ:DSt):Option Fl:=match h.i with
 |none=>h.f δ
 |some i=>if i<δ.length then(h.f (δ.set i (some (.fz (.exc x.c x.ks x.vs))))).bind fun fl=>if fl.isEx=true then none else some (fl.but i)else none
@[simp] noncomputable def tryF(fb:FS)(hs:List HF):FS:=fun δ=>(fb δ).bind fun
 | .ex x δ1=>(Zxj x.c hs).bind fun h=>h.run x δ1
 |fl=>some fl
noncomputable abbrev Ent.wish(Z:Ent K)(EX:EXT):Ent K:=⟨Z.h,Z.f,EX⟩
end
end DL
namespace DL
open PySem PySem.Spec PyProof.Rows L2
section
variable{X:Cx}{Z:Ent X.K}{a b c:Expr}{fa fb:FE}{fx fy:FX}{pos:Pos}
@[simp] noncomputable def isxD(yes no:List Str):D→Option SV
 | .exc c _ _=>if c∈yes then some (.fz (.bl true))else if c∈no then some (.fz (.bl false))else none
 |_=>none
noncomputable def Kn(K:PySem.W.Frag)(r:Addr→Bool→Prop)(yes no:List Str):Prop:=(∀c∈yes,∀C,Zio K c C→ExcKit K C∧r C true)∧∀c∈no,∀C,Zio K c C→ExcKit K C∧r C false
noncomputable def Z2j(Bs:List Addr):TA:=fun _ H R=>R (Bs.map V.ref) H
end
end DL
namespace DL
open PySem PySem.Spec PyProof.Rows L2
section
variable{X:Cx}{pins:List (Addr×Obj)}{σ:L2.St}{H:Hp}{s:Shared}
noncomputable def Z2k(trs:List (TE×TE)):TE:=fun σ H Q=>Zjr trs σ H fun ps H2=>∃kvs:List (Key×V),ps=kvs.map (fun kv=>(kV kv.1,kv.2))∧kvs.length≤15∧∀p ep,H2 p=none→Q (.ref p) (upd H2 p (.dK (Zrs [] kvs) ep))
end
section
variable{K:PySem.W.Frag}{Z:Ent K}{σ:L2.St}{H:Hp}{Q:VK}
noncomputable def tPD(Z:Ent K)(l:List (Str×FE)):List (TE×TE):=l.map fun p=>(tC (.str p.1),Zb Z p.2)
@[simp] noncomputable def Zr7:List (Str×FE)→FD
 | []=>Zs
 |p::r=>Zh p.2 (Zr7 r)
@[simp] noncomputable def Z2l(l:List (Str×FE)):FE:=fun δ=>(Zr7 l δ).bind fun p=>if p.1.length=l.length then some (.tmp (.oK (l.map fun q=>.inr q.1) p.1),p.2)else none
@[simp] noncomputable def minD:List D→Option SV
 | [.int i,.int j]=>some (.fz (.int (if j<i then j else i)))
 |_=>none
end
section
variable{X:Cx}{Z:Ent X.K}{a b c:Expr}{fa fb fc:FE}{pos:Pos}
end
end DL
namespace DL
open PySem PySem.Spec PyProof.Rows L2
@[simp] noncomputable def Zke(ss:List Str)(fd:FD):FD:=fun δ=>(fd δ).bind fun p=>some (ss.map D.str++p.1,p.2)
theorem Zt6{K:PySem.W.Frag}{Z:Ent K}{σ:L2.St}{H:Hp}{fd:FD}:∀(ss:List Str) {R:List V→Hp→Prop},Zay Z (Zke ss fd) σ H R→Zay Z fd σ H fun vs H'=>R (ss.map V.str++vs) H'
 |ss,R,h=>by
  obtain⟨F,δ,own,ds,δ',s,e,k⟩:=h
  obtain⟨⟨ds1,δ1⟩,e1,e2⟩:=Option.bind_eq_some_iff.mp e
  cases e2
  refine⟨F,δ,own,ds1,δ1,s,e1,fun vs H' F' own' a b c r=>k _ H' F' own' a b c ?_⟩
  exact Reps.append (strs_rep ss) r
where strs_rep {F:Hp}:∀ss:List Str,Reps K F (ss.map D.str) (ss.map V.str)
 | []=>.nil
 |x::r=>.cons (.str x) (strs_rep r)
section
variable{X:Cx}{Z:Ent X.K}{pos:Pos}
noncomputable abbrev cst(x:Str×Nat×Pos):Expr:=.Constant (.str x.1) x.2.1 x.2.2
theorem Zkf{es:List Expr}{t:TA}(h:PA X es t):∀l:List (Str×Nat×Pos),PA X (l.map cst++es) fun σ H R=>t σ H fun vs H'=>R ((l.map fun x=>V.str x.1)++vs) H'
 | []=>h
 |x::r=>(Zba (e:=cst x) (es:=r.map cst++es) Zjo (Zkf h r) rfl).imp fun σ H R q=>q
theorem Zn7{es:List Expr}{fd:FD}(l:List (Str×Nat×Pos))(h:PA X es (Zay Z fd)):PA X (l.map cst++es) (Zay Z (Zke (l.map (·.1)) fd)):=
 (Zkf h l).imp fun σ H R q=>by
  have:=Zt6 (l.map (·.1)) q
  rw[List.map_map]at this
  exact this
end
end DL
namespace DL
open PySem PySem.Spec PyProof.Rows L2
section
variable{K:PySem.W.Frag}
inductive RC where
 |v (δ:DSt)|x (e:Exn)
noncomputable def xX(K:PySem.W.Frag)(f:FX)(EX:EXT):TE:=fun σ H Q=>∃Z:Ent K,Z.x=EX∧Z0z Z f σ H Q
@[simp] noncomputable def Zn8(src:List BSrc)(k:Nat)(g:FG)(tt:FT)(te:FX):List D→DSt→Option RC
 | [],δ=>some (.v δ)
 |d::ds,δ=>(g.run d δ).bind fun δ1=>(tt δ1).bind fun p=>if p.1=true then(te p.2).bind (fun
  | .x e _=>some (.x e)
  | .v rv δ2=>(frz rv δ2).bind fun r=>match r.2[k]? with
   |some (some (.ol zs))=>if zs.length<PySem.sizeLine then Zn8 src k g tt te ds (Zdb src (r.2.set k (some (.ol (zs++[r.1])))))else none
   |_=>none)
  else Zn8 src k g tt te ds (Zdb src p.2)
@[simp] noncomputable def Z3v(src:List BSrc)(k:Nat)(fi:FD)(g:FG)(tt:FT)(te:FX):FX:=fun δ=>(fi δ).bind fun p=>(frzAll (caps src) p.2).bind fun c=>(Zn8 src k g tt te p.1 (bD src c.2)).bind fun
 | .x e=>some (.x e c.2)
 | .v δb=>match δb[k]? with
  |some (some (.ol ys))=>some (.v (.tmp (.ol ys)) c.2)
  |_=>none
end
section
variable{X:Cx}{Z:Ent X.K}{pos:Pos}
end
end DL
namespace L2
open PySem PySem.Spec PyProof.Rows
noncomputable def Zb2{α:Type}(xs:List α)(lo hi st:Option Int):List α:=
 (sliceRange (sliceBounds lo hi st xs.length).1 (sliceBounds lo hi st xs.length).2.1 (sliceBounds lo hi st xs.length).2.2).filterMap (xs[·]?)
theorem Vals.pickI{xs:List V}{us:List Value}(r:Vals xs us):∀is:List Nat,Vals (is.filterMap (xs[·]?)) (is.filterMap (us[·]?))
 | []=>.nil
 |i::is=>by
  cases h:xs[i]? with
  |none=>rw[List.filterMap_cons_none h,List.filterMap_cons_none (r.none_of h)];exact Vals.pickI r is
  |some x=>
   obtain⟨u,hu,hr⟩:=r.get h
   rw[List.filterMap_cons_some h,List.filterMap_cons_some hu]
   exact .cons hr (Vals.pickI r is)
theorem Zqq(us:List Value)(lo hi st:Option Int):slicePick us.toArray lo hi st=(Zb2 us lo hi st).toArray:=by
 unfold slicePick Zb2
 simp
section
variable{X:Cx}{e st:Expr}{te:TE}{lo hi:Option Expr}{tl th ts:TO}{pos p2:Pos}
noncomputable def SlR3(X:Cx)(r:V→Option Int→Option Int→Option Int→Hp→VK→Prop):Prop:=
 ∀(pins:List (Addr×Obj)) (s:Shared) (σ:St) (H:Hp) (x:V) (v vl vu vs:Value) (lo hi st:Option Int) (sl:Addr) (Q:VK),Inv X pins σ H s→RelV x v→s.heap.IsSliceOf sl vl vu vs→IsPart vl lo→IsPart vu hi→IsPart vs st→r x lo hi st H Q→
  ∃T id,typeLookup (.type T) "__getitem__"=pure (some (.builtin id))∧s.TypeIs v T∧wpAny (model X.prog X.w) X.A (getItem v (.ref sl)) (EP X pins σ Q) X.xe s
noncomputable def tSl3(r:V→Option Int→Option Int→Option Int→Hp→VK→Prop)(te:TE)(tl th ts:TO):TE:=fun σ H Q=>te σ H fun x H1=>tl σ H1 fun l H2=>th σ H2 fun u H3=>ts σ H3 fun w H4=>r x l u w H4 Q
theorem Zn9{r:V→Option Int→Option Int→Option Int→Hp→VK→Prop}(hr:SlR3 X r)(he:PE X e te)(hl:PO X lo tl)(hu:PO X hi th)(ht:PO X (some st) ts):PE X (.Subscript e (.Slice lo hi (some st) p2) pos) (tSl3 r te tl th ts):=by
 intro pins s σ H Q I h
 refine Subscript_ (thn (he pins s σ H _ I h) fun v s1 zq9=>?_)
 obtain⟨x,H1,I1,r1,q1⟩:=zq9
 refine wpAny_Slice (thn (hl pins s1 σ H1 _ I1 q1) fun vl s2 ⟨l,H2,I2,pl,q2⟩=>thn (hu pins s2 σ H2 _ I2 q2) fun vu s3 ⟨u,H3,I3,pu,q3⟩=>thn (ht pins s3 σ H3 _ I3 q3) fun vs s4 zq9=>?_)
 obtain⟨w,H4,I4,pw,q4⟩:=zq9
 have I5:Inv X pins σ H4 {s4 with heap:=s4.heap.push {cls:=.type "slice",data:=.fields #[vl,vu,vs]}}:=I4.kept (t':=s4.toks) fun b ob q=>Heap.get?_push_of_some _ q
 obtain⟨T,id,hT,ht,hg⟩:=hr pins {s4 with heap:=s4.heap.push {cls:=.type "slice",data:=.fields #[vl,vu,vs]}} σ H4 x v vl vu vs l u w s4.heap.objs.size Q I5 r1 (Heap.IsSliceOf.new ..) pl pu pw q4
 show wpAny (model X.prog X.w) X.A (subscriptTail e (.Slice lo hi (some st) p2) v (.ref s4.heap.objs.size)) (EP X pins σ Q) X.xe {s4 with heap:=s4.heap.push {cls:=.type "slice",data:=.fields #[vl,vu,vs]}}
 exact tail_any (ops:=[v,.ref s4.heap.objs.size]) ht hT hg (by with_unfolding_all rfl)
noncomputable def rSl3(K:PySem.W.Frag):V→Option Int→Option Int→Option Int→Hp→VK→Prop:=fun x lo hi st H Q=>∃a xs,x= .ref a∧SqL K H a xs∧st≠some 0∧∀p,H p=none→Q (.ref p) (upd H p (.lst (Zb2 xs lo hi st)))
theorem Zqr:SlR3 X (rSl3 X.K):=by
 intro pins s σ H x v vl vu vs lo hi st sl Q I rx hs pl pu pw h
 obtain⟨a,xs,rfl,hx,h0,q⟩:=h
 cases rx
 obtain⟨its,r,ht,hz⟩:=I.list hx
 have hlen:=r.length
 refine⟨"list",_,slot_list_getitem.lookup,ht.isList.typeIs,?_⟩
 refine wpAny_getItem_list_slice ht.isList hs pl pu pw h0 ?_ (by rw[List.size_toArray]<;> omega)
 have hsz:=slicePick_size_le its.toArray lo hi st
 rw[Zqq]at hsz⊢
 have rr:Vals (Zb2 xs lo hi st) (Zb2 its lo hi st):=by
  unfold Zb2
  rw[hlen]
  exact r.pickI _
 have hl2:=rr.length
 simp only[List.size_toArray]at hsz
 refine⟨.ref s.heap.objs.size,_,I.laid (t':=s.toks) (o:=.lst (Zb2 xs lo hi st)) (fun b ob q=>Heap.get?_push_of_some _ q) (Nat.le_refl _) ?_,rfl,q _ (I.hok.fresh (Nat.le_refl _))⟩
 exact⟨by omega,_,0,rr,Heap.get?_push_size _ rfl⟩
end
end L2
namespace DL
open PySem PySem.Spec PyProof.Rows L2
theorem Reps.pickI{K:PySem.W.Frag}{F:Hp}{xs:List D}{us:List V}(r:Reps K F xs us):∀is:List Nat,Reps K F (is.filterMap (xs[·]?)) (is.filterMap (us[·]?))
 | []=>.nil
 |i::is=>by
  cases h:xs[i]? with
  |none=>
   have h2:us[i]? =none:=by
    rw[List.getElem?_eq_none_iff]at h⊢
    rw[←r.length];exact h
   rw[List.filterMap_cons_none h,List.filterMap_cons_none h2];exact Reps.pickI r is
  |some x=>
   obtain⟨u,hu,hr⟩:=r.get h
   rw[List.filterMap_cons_some h,List.filterMap_cons_some hu]
   exact .cons hr (Reps.pickI r is)
theorem Reps.pick{K:PySem.W.Frag}{F:Hp}{xs:List D}{us:List V}(r:Reps K F xs us)(lo hi st:Option Int):Reps K F (Zb2 xs lo hi st) (Zb2 us lo hi st):=by
 unfold Zb2
 rw[r.length]
 exact r.pickI _
@[simp] noncomputable def slF3(g:D→Option Int→Option Int→Option Int→Option SV)(fe:FE)(fl fh fs:FO):FE:=fun δ=>(fe δ).bind fun p=>(fl p.2).bind fun l=>(fh l.2).bind fun h=>(fs h.2).bind fun w=>(rdv p.1 w.2).bind fun d=>(g d l.1 h.1 w.1).bind fun sv=>some (.tmp sv,w.2)
section
variable{K:PySem.W.Frag}{Z:Ent K}{H:Hp}{σ:L2.St}{Q:VK}
noncomputable def Zr8(Z:Ent K)(r:V→Option Int→Option Int→Option Int→Hp→VK→Prop)(g:D→Option Int→Option Int→Option Int→Option SV):Prop:=
 ∀(F H:Hp) (σ:L2.St) (δ:DSt) (own:Nat→Zk) (x:V) (d:D) (lo hi st:Option Int) (sv:SV) (Q:VK),SR Z F H σ δ own→RepN K F H d x→g d lo hi st=some sv→Fin Z F H σ δ own sv Q→r x lo hi st H Q
theorem Z01{r:V→Option Int→Option Int→Option Int→Hp→VK→Prop}{g:D→Option Int→Option Int→Option Int→Option SV}{fe:FE}{fl fh fs:FO}(hg:Zr8 Z r g)(h:Zb Z (slF3 g fe fl fh fs) σ H Q):tSl3 r (Zb Z fe) (Zcz Z fl) (Zcz Z fh) (Zcz Z fs) σ H Q:=by
 obtain⟨F,δ,own,rv,δ',s,e,k⟩:=h
 obtain⟨⟨rv1,δ1⟩,e1,e⟩:=Option.bind_eq_some_iff.mp e
 obtain⟨⟨lo,δ2⟩,e2,e⟩:=Option.bind_eq_some_iff.mp e
 obtain⟨⟨hi,δ3⟩,e3,e⟩:=Option.bind_eq_some_iff.mp e
 obtain⟨⟨st,δ4⟩,e3',e⟩:=Option.bind_eq_some_iff.mp e
 obtain⟨d,e4,e⟩:=Option.bind_eq_some_iff.mp e
 obtain⟨sv,e5,e⟩:=Option.bind_eq_some_iff.mp e
 cases e
 refine⟨F,δ,own,rv1,δ1,s,e1,fun v H1 F1 own1 sH1 sF1 s1 r1=>?_⟩
 obtain⟨F1',sF1',s1',r1'⟩:=s1.settleR r1
 refine⟨F1',δ1,own1,lo,δ2,s1',e2,fun H2 F2 own2 sH2 sF2 s2=>⟨F2,δ2,own2,hi,δ3,s2,e3,fun H3 F3 own3 sH3 sF3 s3=>⟨F3,δ3,own3,st,δ4,s3,e3',fun H5 F5 own5 sH5 sF5 s5=>?_⟩⟩⟩
 exact hg F5 H5 σ δ4 own5 v d lo hi st sv Q s5 (s5.rd (r1'.mono (sF2.trans (sF3.trans sF5))) e4) e5 fun q H4 F4 ns sH4 sF4 s4 t4=>
  k q H4 F4 own5 (sH1.trans (sH2.trans (sH3.trans (sH5.trans sH4)))) (sF1.trans (sF1'.trans (sF2.trans (sF3.trans (sF5.trans sF4))))) s4 ⟨ns,t4⟩
@[simp] noncomputable def slD3:D→Option Int→Option Int→Option Int→Option SV
 | .lst xs,lo,hi,st=>if st≠some 0 then some (.ol (Zb2 xs lo hi st))else none
 |_,_,_,_=>none
theorem Z02:Zr8 Z (rSl3 K) slD3:=by
 intro F H σ δ own x d lo hi st sv Q s r1 e k
 unfold slD3 at e
 split at e
 ·split at e
  ·rename_i h0
   cases e
   obtain⟨a,vs,ex,ha,ra⟩:=r1.lst s.le
   exact⟨a,vs,ex,ha,h0,fun p hp=>k.lst s (ra.pick _ _ _) hp⟩
  ·cases e
 ·cases e
end
theorem Zxk{X:Cx}{Z:Ent X.K}{a:Expr}{fa:FE}{pos:Pos}{st:Expr}{lo hi:Option Expr}{fl fh fs:FO}{p2:Pos}(ha:PE X a (Zb Z fa))(hl:PO X lo (Zcz Z fl))(hh:PO X hi (Zcz Z fh))(hs:PO X (some st) (Zcz Z fs)):PE X (.Subscript a (.Slice lo hi (some st) p2) pos) (Zb Z (slF3 slD3 fa fl fh fs)):=
 (Zn9 Zqr ha hl hh hs).imp fun _ _ _ h=>Z01 Z02 h
end DL
namespace DL
section
variable{α:Type}{P:List α→Prop}
@[elab_as_elim] theorem of0(h:P [])(us:List α)(hl:us.length=0):P us:=by
 have:us=[]:=List.eq_nil_of_length_eq_zero hl
 rw[this];exact h
@[elab_as_elim] theorem of1(h:∀a,P [a])(us:List α)(hl:us.length=1):P us:=by
 obtain⟨a,e⟩:=List.length_eq_one_iff.mp hl
 rw[e];exact h a
theorem ofC{n:Nat}(h:∀a (us:List α),us.length=n→P (a::us))(us:List α)(hl:us.length=n+1):P us:=by
 cases us with
 |nil=>exact absurd hl (by simp)
 |cons a r=>exact h a r (by simpa using hl)
@[elab_as_elim] theorem of2(h:∀a b,P [a,b])(us:List α)(hl:us.length=2):P us:=ofC (fun a=>of1 (P:=fun us=>P (a::us)) (h a)) us hl
@[elab_as_elim] theorem of3(h:∀a b c,P [a,b,c])(us:List α)(hl:us.length=3):P us:=ofC (fun a=>of2 (P:=fun us=>P (a::us)) (h a)) us hl
@[elab_as_elim] theorem of4(h:∀a b c d,P [a,b,c,d])(us:List α)(hl:us.length=4):P us:=ofC (fun a=>of3 (P:=fun us=>P (a::us)) (h a)) us hl
@[elab_as_elim] theorem of5(h:∀a b c d e,P [a,b,c,d,e])(us:List α)(hl:us.length=5):P us:=ofC (fun a=>of4 (P:=fun us=>P (a::us)) (h a)) us hl
@[elab_as_elim] theorem of6(h:∀a b c d e f,P [a,b,c,d,e,f])(us:List α)(hl:us.length=6):P us:=ofC (fun a=>of5 (P:=fun us=>P (a::us)) (h a)) us hl
end
end DL
namespace L2
open PySem PySem.Spec PyProof.Rows
section
variable{prog:Program}{w:World}{A:Around}{E:Value→Shared→Prop}{s:Shared}{q d:Addr}{i n ep:Nat}{od:Obj}{es:Array DictEntry}
theorem Zkg{Q:Value→Shared→Prop}(hs:(d==sysModules)=false)(g:s.heap.get? d=some od)(x:od.ExactDict)(c:od.data= .dict es ep)
  (k:Q (.ref s.heap.objs.size) {s with heap:=s.heap.push {cls:=.type "dict_keyiterator",data:=.fields #[.ref d,.int 0 0,.int es.size 0,.int ep 0]}}):wpAny (model prog w) A (pyIter (.ref d)) Q E s:=by
 have T:s.TypeIs (.ref d) "dict":=⟨od,g,x.1⟩
 refine wpAny_pyIter_slot T PySem.F.slot_dict_iter (wpAny_call_entry PySem.F.slot_dict_iter T PySem.F.entry_dict_iter (show wpAny _ _ (Builtin.«dict.__iter__» _) _ _ _ from ?_) (PySem.F.args_dict_iter_1 _))
 unfold Builtin.«dict.__iter__» Builtin.Dict.dictSlotNone
 refine wpAny_bind (wpAny_bind (wpAny_notOrdered_dict T (show wpAny _ _ (pure (Value.ref d)) _ _ s from wpAny_pure ?_)))
 show wpAny _ _ (Builtin.Dict.showsAll d >>=_) _ _ s
 unfold Builtin.Dict.showsAll
 rw[if_neg (by rw[hs];decide)]
 refine wpAny_bind (wpAny_pure (wpAny_bind (wpAny_dictEntries g c (wpAny_bind (wpAny_dictEpoch g c (wpAny_bind (wpAny_newObj_type (wpAny_pure ⟨_,rfl,"dict_keyiterator",_,⟨_,Heap.get?_push_size _ rfl,rfl⟩,PySem.F.slot_dict_keyiterator_next.lookup,?_⟩))))))))
 simpa[rawInt]using k
theorem Zkh{e:DictEntry}{Q:Option Value→Shared→Prop}(t:s.heap.IsKeyIter q d i n ep)(g:s.heap.get? d=some od)(c:od.data= .dict es ep)(hn:es.size=n)(he:es[i]? =some e)
  (k:∀h',h'.IsKeyIter q d (i+1) n ep→Heap.SameBut q s.heap h'→Q (some e.key) {s with heap:=h'}):wpAny (model prog w) A (pyNext (.ref q)) Q E s:=by
 obtain⟨o,ho,hc,hd⟩:=id t
 have T:=t.typeIs
 unfold pyNext
 refine wpAny_bind (wpAny_attempt (wpAny_callSpecial?_slot (name:="__next__") T PySem.F.slot_dict_keyiterator_next (wpAny_call_entry PySem.F.slot_dict_keyiterator_next T PySem.F.entry_dict_keyiterator_next (wpAny_bind (wpAny_pure (wpAny_bind (wpAny_bind ?_)))) (PySem.F.args_dict_keyiterator_next_1 _))))
 first| (refine wpAny_bind (wpAny_typeNameOfWhole_keyiter T (wpAny_pure (wpAny_bind (wpAny_fieldsOf ho hd ?_)))))| (refine wpAny_bind (wpAny_typeNameOf_keyiter T (wpAny_pure (wpAny_bind (wpAny_fieldsOf ho hd ?_)))))
 have z0:Builtin.Dict_items.ownsTuple "dict_keyiterator"=false:=rfl
 rw[z0]
 simp only[Bool.false_eq_true,if_false]
 show wpAny _ _ (ite ((Value.ref d==Value.none)=true) _ _) _ _ s
 rw[if_neg (show¬(Value.ref d==Value.none)=true from fun z=>Bool.false_ne_true z)]
 refine wpAny_bind (wpAny_pure (wpAny_bind (wpAny_dictEntries g c ?_)))
 rw[if_neg (by rw[hn];simp)]
 refine wpAny_bind (wpAny_pure (wpAny_bind (wpAny_dictEpoch g c ?_)))
 rw[if_neg (by simp)]
 have hi:i<es.size:=(Array.getElem?_eq_some_iff.mp he).1
 refine wpAny_pure ?_
 simp only[show¬((i:Int)<0) by omega,if_false,Int.toNat_natCast,he]
 refine wpAny_bind ?_
 first| (refine wpAny_bind (wpAny_typeNameOfWhole_keyiter T (wpAny_pure (wpAny_bind (wpAny_isOneOf_keyiter T ?_)))))| (refine wpAny_bind (wpAny_typeNameOf_keyiter T (wpAny_pure (wpAny_bind (wpAny_isOneOf_keyiter T ?_)))))
 show wpAny _ _ (setField (.ref q) 1 (rawInt ((i:Int)+1)) >>=_) _ _ s
 refine wpAny_bind (wpAny_setField ho hd (by simp) ?_)
 have t':(s.heap.update q (Obj.mapFields (·.setIfInBounds 1 (rawInt ((i:Int)+1))))).IsKeyIter q d (i+1) n ep:=⟨_,Heap.get?_update_self _ ho (Obj.isFreed_of_fields (Obj.data_mapFields hd _)),(Obj.cls_mapFields ..).trans hc,(Obj.data_mapFields hd _).trans (by simp[rawInt])⟩
 refine wpAny_bind (wpAny_holding (wpAny_bind (wpAny_isOneOf_keyiter (s:={s with heap:=s.heap.update q (Obj.mapFields (·.setIfInBounds 1 (rawInt ((i:Int)+1))))}) t'.typeIs (show wpAny _ _ (pure e.key) _ _ _ from wpAny_pure (wpAny_pure ⟨_,rfl,wpAny_pure (k _ t' (Heap.SameBut.update ..))⟩)))))
theorem Zki{Q:Option Value→Shared→Prop}(hh:A.handled=none)(t:s.heap.IsKeyIter q d i n ep)(g:s.heap.get? d=some od)(c:od.data= .dict es ep)(hn:es.size=n)(hi:n≤i)
  (k:∀h',Heap.ExtBut q s.heap h'→Q none {s with heap:=h'}):wpAny (model prog w) A (pyNext (.ref q)) Q E s:=by
 obtain⟨o,ho,hc,hd⟩:=id t
 have T:=t.typeIs
 unfold pyNext
 refine wpAny_bind (wpAny_attempt (wpAny_callSpecial?_slot (name:="__next__") T PySem.F.slot_dict_keyiterator_next (wpAny_call_entry PySem.F.slot_dict_keyiterator_next T PySem.F.entry_dict_keyiterator_next (wpAny_bind (wpAny_pure (wpAny_bind (wpAny_bind ?_)))) (PySem.F.args_dict_keyiterator_next_1 _))))
 first| (refine wpAny_bind (wpAny_typeNameOfWhole_keyiter T (wpAny_pure (wpAny_bind (wpAny_fieldsOf ho hd ?_)))))| (refine wpAny_bind (wpAny_typeNameOf_keyiter T (wpAny_pure (wpAny_bind (wpAny_fieldsOf ho hd ?_)))))
 have z0:Builtin.Dict_items.ownsTuple "dict_keyiterator"=false:=rfl
 rw[z0]
 simp only[Bool.false_eq_true,if_false]
 show wpAny _ _ (ite ((Value.ref d==Value.none)=true) _ _) _ _ s
 rw[if_neg (show¬(Value.ref d==Value.none)=true from fun z=>Bool.false_ne_true z)]
 refine wpAny_bind (wpAny_pure (wpAny_bind (wpAny_dictEntries g c ?_)))
 rw[if_neg (by rw[hn];simp)]
 refine wpAny_bind (wpAny_pure (wpAny_bind (wpAny_dictEpoch g c ?_)))
 rw[if_neg (by simp)]
 have he:es[i]? =none:=Array.getElem?_eq_none (by omega)
 refine wpAny_pure ?_
 simp only[show¬((i:Int)<0) by omega,if_false,Int.toNat_natCast,he]
 refine wpAny_bind ?_
 first| (refine wpAny_bind (wpAny_typeNameOfWhole_keyiter T (wpAny_pure ?_)))| (refine wpAny_bind (wpAny_typeNameOf_keyiter T (wpAny_pure ?_)))
 show wpAny _ _ (setField (.ref q) 0 Value.none >>=_) _ _ s
 refine wpAny_bind (wpAny_setField ho hd (by simp) (show wpAny _ _ (newExc (.type "StopIteration") [] >>=_) _ _ _ from wpAny_bind ?_))
 simp only[newExc,newTuple]
 refine wpAny_bind (wpAny_newObj_type (wpAny_bind (m:=firstArgMember _ _) (wpAny_of_eq (a:=Value.none) (by first|rfl| (simp only[firstArgMember];rfl)) (wpAny_newObj_type ?_ (by size_fits)))) (by size_fits))
 simp only[raiseNew]
 refine wpAny_bind (wpAny_handled ?_)
 rw[show A.in1.handled=Option.none from hh]
 refine wpAny_bind (wpAny_pure (wpAny_throw ?_))
 refine wpAny_bind (wpAny_isInstance (T:="StopIteration") (b:=true) (by exact⟨_,Heap.get?_push_size _ rfl,rfl⟩) isSubtype_stop ?_)
 exact wpAny_pure (k _ (((Heap.SameBut.update ..).extBut.push _).push _))
theorem Zt7{P:Program}{w:World}{k:Key}{u:Value}(h:(Zm P w).is k u=true):RelV (kV k) u:=by
 rcases Zp h with⟨i,t,rfl,rfl⟩|⟨x,t,rfl,rfl⟩
 ·exact⟨t,rfl⟩
 ·exact⟨t,rfl⟩
end
noncomputable def Itk(a:Addr)(n ep:Nat):It:=
 ⟨fun i H=>∃kvs,H a=some (.dK kvs ep)∧kvs.length=n∧i<n,fun i H x H'=>H'=H∧∃kvs kv,H a=some (.dK kvs ep)∧kvs[i]? =some kv∧x=kV kv.1,fun i H=>∃kvs,H a=some (.dK kvs ep)∧kvs.length=n∧n≤i⟩
noncomputable def Itd(a:Addr)(n ep:Nat):It:=
 ⟨fun i H=>∃kvs bs,H a=some (.dT kvs ep bs)∧kvs.length=n∧i<n,fun i H x H'=>H'=H∧∃kvs bs b,H a=some (.dT kvs ep bs)∧bs[i]? =some b∧x= .ref b,fun i H=>∃kvs bs,H a=some (.dT kvs ep bs)∧kvs.length=n∧n≤i⟩
theorem Zhl{q d:Addr}{i n ep:Nat}{h h':Heap}(t:h.IsKeyIter q d i n ep)(k:∀o,h.get? q=some o→h'.get? q=some o):h'.IsKeyIter q d i n ep:=let⟨o,e,r⟩:=t;⟨o,k o e,r⟩
theorem Zqs{P:Program}{w:World}{es:List DictEntry}{vs:List (Key×Value)}(h:Pairs (Zm P w) es vs){i:Nat}{kv:Key×Value}(hi:vs[i]? =some kv):∃e,es[i]? =some e∧(Zm P w).is kv.1 e.key=true:=by
 induction h generalizing i with
 |nil=>simp at hi
 | @cons e0 kv0 es0 kvs0 h1 h2 _ ih=>
  cases i with
  |zero=>simp at hi;subst hi;exact⟨e0,by simp,h1⟩
  |succ j=>
   obtain⟨e,a1,a2⟩:=ih (i:=j) (by simpa using hi)
   exact⟨e,by simpa using a1,a2⟩
theorem Zek{P:Program}{w:World}{es:List DictEntry}{vs:List (Key×Value)}(h:Pairs (Zm P w) es vs):es.length=vs.length:=by
 induction h with
 |nil=>rfl
 |cons _ _ _ ih=>rw[List.length_cons,List.length_cons,ih]
theorem Zel{α β:Type}{R:α→β→Prop}{l:List α}{m:List β}(h:Paired R l m):∀{i:Nat} {x:α},l[i]? =some x→∃y,m[i]? =some y∧R x y:=by
 induction h with
 |nil=>intro i x hi;simp at hi
 | @cons a b as bs h1 t ih=>
  intro i x hi
  cases i with
  |zero=>simp at hi;subst hi;exact⟨b,by simp,h1⟩
  |succ j=>obtain⟨y,a1,a2⟩:=ih (i:=j) (by simpa using hi);exact⟨y,by simpa using a1,a2⟩
theorem Zf2{P:Program}{w:World}{K:PySem.W.Frag}{tg:Expr}(a it:Addr)(n ep:Nat):Turn P w K tg (Itk a n ep) [it] it (fun i h=>h.IsKeyIter it a i n ep)where
 mem:=List.mem_cons_self
 obj:=fun i h st b hb=>by
  obtain rfl:=List.mem_singleton.mp hb
  obtain⟨o,e,c,d⟩:=st
  exact⟨o,e,fun v z=>by rw[d]at z;cases z⟩
 keep:=fun i h h' st k=>Zhl st fun o e=>k it List.mem_cons_self o e
 item:=by
  intro X hP hw hK hc i pins s σ H E I hf st hg
  subst hP hw hK
  obtain⟨kvs,hq,hn,hi⟩:=hg
  obtain⟨z,hd,vs,rel,od,es,g,x,c,ko,pr,nd⟩:=(show Zaq X.prog X.w H s.heap a (.dK kvs ep)from I.hok a _ hq)
  obtain⟨f0,f1,f2,f3,f4,f5⟩:=hf it List.mem_cons_self
  have hkv:kvs[i]? =some (kvs[i]'(by omega)):=List.getElem?_eq_getElem (by omega)
  obtain⟨vv,hv,hr⟩:=Zel rel hkv
  obtain⟨e,he,hke⟩:=Zqs pr hv
  have hz:es.size=n:=by rw[←Array.length_toList,Zek pr,←Paired.length rel,hn]
  refine Zkh st g c hz (e:=e) (by rw[←Array.getElem?_toList];exact he) fun h' st' sb=>?_
  have I1:Inv X pins σ H {s with heap:=h'}:=I.turned (t':=s.toks) (fun b o hb e=>(sb.2 b hb).trans e) f0 f1 f3 f4 f5
  obtain⟨o,e1,c1,d1⟩:=id st'
  exact⟨e.key,rfl,Zk5 (s:={s with heap:=h'}) e1 c1 d1 (by decide) ⟨kV (kvs[i]'(by omega)).1,H,I1,Zt7 (by rw[hr.1];exact hke),⟨rfl,kvs,_,hq,hkv,rfl⟩,st',fun b hb=>(hf b hb).1⟩⟩
 done:=by
  intro X hP hw hK hc i pins s σ H E I hf st hg
  subst hP hw hK
  obtain⟨kvs,hq,hn,hi⟩:=hg
  obtain⟨z,hd,vs,rel,od,es,g,x,c,ko,pr,nd⟩:=(show Zaq X.prog X.w H s.heap a (.dK kvs ep)from I.hok a _ hq)
  obtain⟨f0,f1,f2,f3,f4,f5⟩:=hf it List.mem_cons_self
  have hz:es.size=n:=by rw[←Array.length_toList,Zek pr,←Paired.length rel,hn]
  exact Zki (I.ok.hd hc) st g c hz hi fun h' eb=>⟨rfl,I.turned (t':=s.toks) (fun b o hb e=>eb b o hb e) f0 f1 f3 f4 f5⟩
 self:=fun _ _ s _ _ st h=>by
  exact wpAny_pyIter_slot st.typeIs PySem.F.slot_dict_keyiterator_iter (wpAny_call_entry PySem.F.slot_dict_keyiterator_iter st.typeIs PySem.F.entry_dict_keyiterator_iter (by exact wpAny_pure ⟨_,rfl,"dict_keyiterator",_,st.typeIs,PySem.F.slot_dict_keyiterator_next.lookup,h⟩) (PySem.F.args_dict_keyiterator_iter_1 _))
theorem Zt8{P:Program}{w:World}{K:PySem.W.Frag}{tg:Expr}(a it:Addr)(n ep:Nat):Turn P w K tg (Itd a n ep) [it] it (fun i h=>h.IsKeyIter it a i n ep)where
 mem:=List.mem_cons_self
 obj:=(Zf2 (P:=P) (w:=w) (K:=K) (tg:=tg) a it n ep).obj
 keep:=(Zf2 (P:=P) (w:=w) (K:=K) (tg:=tg) a it n ep).keep
 item:=by
  intro X hP hw hK hc i pins s σ H E I hf st hg
  subst hP hw hK
  obtain⟨kvs,bs,hq,hn,hi⟩:=hg
  obtain⟨z,hd,xs,rel,od,es,g,x,c,en,nd,hbs⟩:=(show Zaq X.prog X.w H s.heap a (.dT kvs ep bs)from I.hok a _ hq)
  obtain⟨f0,f1,f2,f3,f4,f5⟩:=hf it List.mem_cons_self
  have hkv:kvs[i]? =some (kvs[i]'(by omega)):=List.getElem?_eq_getElem (by omega)
  obtain⟨vv,hv,hr⟩:=Zel rel hkv
  have hz:es.size=n:=by rw[←Array.length_toList,en,List.length_map,←Paired.length rel,hn]
  have he:es[i]? =some (entryOfKey (tupleKind (Zm X.prog X.w)) vv):=by rw[←Array.getElem?_toList,en,List.getElem?_map,hv];rfl
  refine Zkh st g c hz he fun h' st' sb=>?_
  have I1:Inv X pins σ H {s with heap:=h'}:=I.turned (t':=s.toks) (fun b o hb e=>(sb.2 b hb).trans e) f0 f1 f3 f4 f5
  obtain⟨o,e1,c1,d1⟩:=id st'
  exact⟨.ref vv.2.1,rfl,Zk5 (s:={s with heap:=h'}) e1 c1 d1 (by decide) ⟨.ref vv.2.1,H,I1,rfl,⟨rfl,kvs,bs,vv.2.1,hq,by rw[←hbs,List.getElem?_map,hv];rfl,rfl⟩,st',fun b hb=>(hf b hb).1⟩⟩
 done:=by
  intro X hP hw hK hc i pins s σ H E I hf st hg
  subst hP hw hK
  obtain⟨kvs,bs,hq,hn,hi⟩:=hg
  obtain⟨z,hd,xs,rel,od,es,g,x,c,en,nd,hbs⟩:=(show Zaq X.prog X.w H s.heap a (.dT kvs ep bs)from I.hok a _ hq)
  obtain⟨f0,f1,f2,f3,f4,f5⟩:=hf it List.mem_cons_self
  have hz:es.size=n:=by rw[←Array.length_toList,en,List.length_map,←Paired.length rel,hn]
  exact Zki (I.ok.hd hc) st g c hz hi fun h' eb=>⟨rfl,I.turned (t':=s.toks) (fun b o hb e=>eb b o hb e) f0 f1 f3 f4 f5⟩
 self:=(Zf2 (P:=P) (w:=w) (K:=K) (tg:=tg) a it n ep).self
section
variable{X:Cx}{tg:Expr}
noncomputable def iDic(tl:TE):TI:=fun σ H R=>tl σ H fun x H1=>(∃a kvs ep,x= .ref a∧H1 a=some (.dK kvs ep)∧R (Itk a kvs.length ep) H1)∨(∃a kvs ep bs,x= .ref a∧H1 a=some (.dT kvs ep bs)∧R (Itd a kvs.length ep) H1)
theorem Zxl{l:Expr}{tl:TE}(hl:PE X l tl):PI X tg l (iDic tl):=by
 intro pins s σ H R I h
 refine thn (hl pins s σ H _ I h) fun v s1 zq9=>?_
 obtain⟨x,H1,I1,r1,q1⟩:=zq9
 rcases q1 with⟨a,kvs,ep,rfl,hq,q⟩|⟨a,kvs,ep,bs,rfl,hq,q⟩
 ·cases r1
  obtain⟨z,hd,vs,rel,od,es,g,x,c,ko,pr,nd⟩:=(show Zaq X.prog X.w H1 s1.heap a (.dK kvs ep)from I1.hok a _ hq)
  have hz:es.size=kvs.length:=by rw[←Array.length_toList,Zek pr,←Paired.length rel]
  refine Zkg hd g x c ⟨s1.heap.objs.size,[s1.heap.objs.size],_,_,H1,rfl,I1.kept (t':=s1.toks) fun b o e=>Heap.get?_push_of_some _ e,Zf2 a _ kvs.length ep,⟨_,Heap.get?_push_size _ rfl,rfl,by rw[hz];rfl⟩,fun b hb=>?_,q⟩
  obtain rfl:=List.mem_singleton.mp hb
  exact I1.fpOk (Nat.le_refl _) (I1.hok.fresh (Nat.le_refl _))
 ·cases r1
  obtain⟨z,hd,xs,rel,od,es,g,x,c,en,nd,hbs⟩:=(show Zaq X.prog X.w H1 s1.heap a (.dT kvs ep bs)from I1.hok a _ hq)
  have hz:es.size=kvs.length:=by rw[←Array.length_toList,en,List.length_map,←Paired.length rel]
  refine Zkg hd g x c ⟨s1.heap.objs.size,[s1.heap.objs.size],_,_,H1,rfl,I1.kept (t':=s1.toks) fun b o e=>Heap.get?_push_of_some _ e,Zt8 a _ kvs.length ep,⟨_,Heap.get?_push_size _ rfl,rfl,by rw[hz];rfl⟩,fun b hb=>?_,q⟩
  obtain rfl:=List.mem_singleton.mp hb
  exact I1.fpOk (Nat.le_refl _) (I1.hok.fresh (Nat.le_refl _))
end
end L2
namespace DL
open PySem PySem.Spec PyProof.Rows L2
variable{K:PySem.W.Frag}
@[simp] noncomputable def keyD:Key→D
 | .inl i=>.int i
 | .inr x=>.str x
theorem Zf3{F:Hp}(k:Key):Rep K F (keyD k) (kV k):=by
 cases k with
 |inl i=>exact .int i
 |inr x=>exact .str x
theorem Zhm{F:Hp}:∀k:List Key,Reps K F (k.map keyD) (k.map kV)
 | []=>.nil
 |k::r=>.cons (Zf3 k) (Zhm r)
theorem Zoa{F:Hp}{a:Addr}{kvs:List (Key×V)}{ep:Nat}(h:F a=some (.dK kvs ep)):Zch K (Itk a kvs.length ep) F ((kvs.map (·.1)).map keyD):=fun F' H sF sH i=>by
 have q:H a=some (.dK kvs ep):=sH _ _ (sF _ _ h)
 refine⟨fun d hd=>?_,fun hl=>⟨kvs,q,rfl,by simpa using hl⟩⟩
 rw[List.map_map,List.getElem?_map]at hd
 obtain⟨kv,h1,h2⟩:=Option.map_eq_some_iff.mp hd
 refine⟨⟨kvs,q,rfl,(List.getElem?_eq_some_iff.mp h1).1⟩,fun x H' ⟨e1,kvs',kv',e2,e3,e4⟩=>?_⟩
 subst e1
 rw[q]at e2;cases e2
 rw[h1]at e3;cases e3
 subst e4
 rw[←h2]
 exact⟨Same.refl _,[],List.nodup_nil,fun _ h=>(nomatch h),Zf3 _⟩
theorem Zob{F:Hp}{a:Addr}{kvs:List (List Key×V)}{ep:Nat}{bs:List Addr}(h:F a=some (.dT kvs ep bs))(kb:KB F kvs bs):Zch K (Itd a kvs.length ep) F ((kvs.map (·.1)).map fun k=>D.tup (k.map keyD)):=fun F' H sF sH i=>by
 have q:H a=some (.dT kvs ep bs):=sH _ _ (sF _ _ h)
 refine⟨fun d hd=>?_,fun hl=>⟨kvs,bs,q,rfl,by simpa using hl⟩⟩
 rw[List.map_map,List.getElem?_map]at hd
 obtain⟨kv,h1,h2⟩:=Option.map_eq_some_iff.mp hd
 refine⟨⟨kvs,bs,q,rfl,(List.getElem?_eq_some_iff.mp h1).1⟩,fun x H' ⟨e1,kvs',bs',b,e2,e3,e4⟩=>?_⟩
 subst e1
 rw[q]at e2;cases e2
 subst e4
 obtain⟨b',g1,g2⟩:=Zel (kb.mono sF) h1
 rw[e3]at g1;cases g1
 rw[←h2]
 exact⟨Same.refl _,[],List.nodup_nil,fun _ h=>(nomatch h),.tup g2 (Zhm _)⟩
section
variable{Z:Ent K}{H:Hp}{σ:L2.St}
@[simp] noncomputable def dicI(fe:FE):FD:=fun δ=>(fe δ).bind fun p=>(frz p.1 p.2).bind fun q=>match q.1 with
 | .dK ks _=>some (ks.map keyD,q.2)
 | .dT ks _=>some (ks.map fun k=>D.tup (k.map keyD),q.2)
 |_=>none
theorem Zxm{fe:FE}{R:It→Hp→Prop}(h:Zbr Z (dicI fe) σ H R):iDic (Zb Z fe) σ H R:=by
 obtain⟨F,δ,own,ds,δ',s,e,k⟩:=h
 obtain⟨⟨rv,δ1⟩,e1,e2⟩:=Option.bind_eq_some_iff.mp e
 obtain⟨⟨d,δ2⟩,e3,e4⟩:=Option.bind_eq_some_iff.mp e2
 refine⟨F,δ,own,rv,δ1,s,e1,fun v H1 F1 own1 sH sF s1 r1=>?_⟩
 obtain⟨F2,sF2,s2,r2⟩:=s1.settleR r1
 obtain⟨F3,own3,sF3,s3,r3⟩:=s2.frzR r2 e3
 dsimp only at e4
 split at e4
 ·cases e4
  cases r3 with
  |dK h e r=>subst e;exact .inl ⟨_,_,_,rfl,s3.le _ _ h,k _ H1 F3 own3 sH (sF.trans (sF2.trans sF3)) s3 (Zoa h)⟩
 ·cases e4
  cases r3 with
  |dT h kb e r=>subst e;exact .inr ⟨_,_,_,_,rfl,s3.le _ _ h,k _ H1 F3 own3 sH (sF.trans (sF2.trans sF3)) s3 (Zob h kb)⟩
 ·cases e4
end
theorem Z03{X:Cx}{tg:Expr}{Z:Ent X.K}{a:Expr}{fa:FE}(ha:PE X a (Zb Z fa)):PI X tg a (Zbr Z (dicI fa)):=fun pins s σ H R I h=>Zxl ha pins s σ H R I (Zxm h)
end DL
namespace DL
open PySem PySem.Spec PyProof.Rows L2
variable{K:PySem.W.Frag}
@[simp] noncomputable def inW(d1 d2:D):Option SV:=match d2.seq? with
 |some xs=>if d1.isFlat=true∧xs.all D.isFlat=true then some (.fz (.bl (inFl d1 xs)))else none
 |none=>inD d1 d2
@[simp] noncomputable def Z2m(d1 d2:D):Option SV:=match d2.seq? with
 |some xs=>if d1.isFlat=true∧xs.all D.isFlat=true then some (.fz (.bl (!inFl d1 xs)))else none
 |none=>Zj2 d1 d2
section
variable{Z:Ent K}
end
section
variable{X:Cx}{Z:Ent X.K}{a b:Expr}{fa fb:FE}{pos:Pos}
end
end DL
namespace L2
open PySem PySem.Spec PyProof.Rows
section
variable{prog:Program}{w:World}{A:Around}{E:Value→Shared→Prop}{s:Shared}{a b:Addr}{xs ys:List (List Key×Addr×Value)}
end
section
variable{X:Cx}
noncomputable def rEqT:R2:=fun x y H Q=>∃a b kvs,x= .ref a∧y= .ref b∧HTt H a kvs∧HTt H b kvs∧(∀p∈kvs,Z7 p.2=true)∧Q (.bl true) H
end
end L2
namespace DL
open PySem PySem.Spec PyProof.Rows L2
variable{K:PySem.W.Frag}
noncomputable def Z04(ks ks':List (List Key))(vs vs':List D):Bool:=@decide (ks=ks'∧vs=vs'∧vs.all D.isFlat=true) (Classical.propDecidable _)
@[simp] noncomputable def eqTD(d1 d2:D):Option SV:=match d1,d2 with
 | .dT ks vs,.dT ks' vs'=>if Z04 ks ks' vs vs'=true then some (.fz (.bl true))else none
 |_,_=>none
section
variable{Z:Ent K}
end
section
variable{X:Cx}{Z:Ent X.K}{a b:Expr}{fa fb:FE}{pos:Pos}
end
end DL
namespace DL
open PySem PySem.Spec PyProof.Rows L2
end DL
namespace DL
open PySem PySem.Spec PyProof.Rows L2
variable{K:PySem.W.Frag}
@[simp] noncomputable def Zoc(src:List BSrc)(k:Nat)(g:FG)(tt:FT)(te:FE):List D→DSt→Option DSt
 | [],δ=>some δ
 |d::ds,δ=>(g.run d δ).bind fun δ1=>(tt δ1).bind fun p=>if p.1=true then(te p.2).bind fun q=>match q.1,q.2[k]? with
   | .tmp (.ol xs),some (some (.oL none zs))=>if zs.length<PySem.sizeLine then Zoc src k g tt te ds (Zdb src (q.2.set k (some (.oL none (zs++[xs])))))else none
   |_,_=>none
  else Zoc src k g tt te ds (Zdb src p.2)
@[simp] noncomputable def Z2n(src:List BSrc)(k:Nat)(fi:FD)(g:FG)(tt:FT)(te:FE):FE:=fun δ=>(fi δ).bind fun p=>(frzAll (caps src) p.2).bind fun c=>(Zoc src k g tt te p.1 ((bD src c.2).set k (some (.oL none [])))).bind fun δb=>match δb[k]? with
 |some (some (.oL none ys))=>some (.tmp (.oL none ys),c.2)
 |_=>none
theorem SR.drop{Z:Ent K}{F H:Hp}{σ:L2.St}{δ:DSt}{own:Nat→Zk}(i:Nat)(s:SR Z F H σ δ own):SR Z F H σ (δ.set i none) (put own i []):=by
 refine⟨s.le,s.fro,s.old,by rw[List.length_set];exact s.len,fun j sv e=>?_,fun j=>?_,fun j p hp=>?_,fun j k p q hjk hp hq=>?_⟩
 ·by_cases hj:j=i
  ·subst hj
   rw[List.getElem?_set]at e
   rw[if_pos rfl]at e
   split at e
   ·cases e
   ·cases e
  ·rw[List.getElem?_set_ne (Ne.symm hj)]at e
   rw[Zv hj]
   exact s.at' j sv e
 ·by_cases hj:j=i
  ·subst hj;rw[Zn];exact List.nodup_nil
  ·rw[Zv hj];exact s.nod j
 ·by_cases hj:j=i
  ·subst hj;rw[Zn]at hp;exact nomatch hp
  ·rw[Zv hj]at hp;exact s.ok j p hp
 ·by_cases hj:j=i
  ·subst hj;rw[Zn]at hp;exact nomatch hp
  ·by_cases hk:k=i
   ·subst hk;rw[Zn]at hq;exact nomatch hq
   ·rw[Zv hj]at hp
    rw[Zv hk]at hq
    exact s.sep j k p q hjk hp hq
section
variable{Z:Ent K}{H:Hp}{σ:L2.St}{Q:VK}{E:Ends}
noncomputable def Zxn(i p q:Nat):FE:=fun δ=>match δ[i]?,δ[p]?,δ[q]? with
 |some (some (.oL none xss)),some (some (.fz (.int n))),some (some (.fz (.lst xs)))=>if 0≤n∧n.toNat≤xss.length∧xss.length+1≤PySem.sizeLine then some (.tmp (.oL none (xss.take n.toNat++[xs]++xss.drop n.toNat)),δ.set i none)else none
 |_,_,_=>none
@[simp] theorem Zy4{i p q:Nat}{δ:DSt}{xss:List (List D)}{n:Nat}{xs:List D}(hi:δ[i]? =some (some (.oL none xss)))(hp:δ[p]? =some (some (.fz (.int (n:Nat)))))(hq:δ[q]? =some (some (.fz (.lst xs))))(hn:n≤xss.length)(hz:xss.length+1≤PySem.sizeLine):
  Zxn i p q δ=some (.tmp (.oL none (xss.take n++[xs]++xss.drop n)),δ.set i none):=by
 unfold Zxn
 rw[hi,hp,hq]
 dsimp only
 rw[if_pos ⟨by omega,by omega,hz⟩,Int.toNat_natCast]
noncomputable abbrev rLst(K:PySem.W.Frag):List V→Hp→VK→Prop:=fun xs H Q=>∃p ys,xs=[V.ref p]∧(SqL K H p ys∨SqT K H p ys)∧∀l,H l=none→Q (.ref l) (upd H l (.lst ys))
@[simp] noncomputable def apT(c:Str)(n:Nat)(xss:List (List D)):List (List D):=(xss.take n).map (· ++[.str c])++xss.drop n
noncomputable def Zod(i j:Nat)(c:Str):FS:=fun δ=>match δ[i]? with
 |some (some (.oL none xss))=>if i≠j∧j<δ.length∧(∀xs∈xss,xs.length<PySem.sizeLine)then some (.nx ((δ.set j none).set i (some (.oL none (xss.map (· ++[.str c]))))))else none
 |_=>none
@[simp] theorem Zu5{i j:Nat}{c:Str}{δ:DSt}{xss:List (List D)}(hi:δ[i]? =some (some (.oL none xss)))(hij:i≠j)(hj:j<δ.length)(hz:∀xs∈xss,xs.length<PySem.sizeLine):Zod i j c δ=some (.nx ((δ.set j none).set i (some (.oL none (xss.map (· ++[.str c])))))):=by
 unfold Zod
 rw[hi]
 dsimp only
 rw[if_pos ⟨hij,hj,hz⟩]
noncomputable def Zoe(i:Nat):FS:=fun δ=>match δ[i]? with
 |some (some (.oL none _))=>some (.nx (δ.set i (some (.ol []))))
 |_=>none
@[simp] theorem Zu6{i:Nat}{δ:DSt}{xss:List (List D)}(hi:δ[i]? =some (some (.oL none xss))):Zoe i δ=some (.nx (δ.set i (some (.ol [])))):=by unfold Zoe;rw[hi]
end
end DL
namespace DL
open PySem PySem.Spec PyProof.Rows L2
section
variable{X:Cx}{Z:Ent X.K}{a b c:Expr}{fa fb fc:FE}{pos:Pos}
theorem Zt9(i:Nat){x:Str}{pos:Pos}(hN:X.N[i]? =some x:=by rfl)(hv:Vis X.env.scope x:=by first|exact Or.inl rfl|exact Or.inr (Or.inl rfl)|exact Or.inr (Or.inr rfl))(hd:(x==("__debug__":Str))=false:=by decide)
  (hcd:(x==("__classdict__":Str))=false:=by decide):PE X (.Name x pos) (tVar i):=Ze5 hN hv hd hcd
end
end DL
namespace DL
open PySem PySem.Spec PyProof.Rows L2
variable{K:PySem.W.Frag}
noncomputable def Z05(K:PySem.W.Frag)(C:Addr)(f:Str):Sp:=fun vs H Q _=>∃e p ys,vs=[.ref e,.ref p]∧H e=some (.ext (Zdj e C none))∧(SqL K H p ys∨SqT K H p ys)∧
 ∀l,H l=none→∀dx,upd H l (.lst ys) dx=none→Q .non (upd (upd (upd H l (.lst ys)) dx (.xd [(f,.ref l)])) e (.ext (Zdj e C (some dx))))
noncomputable def Z06(C:Addr)(f:Str):Sp:=fun vs H Q _=>∃e v,vs=[.ref e,v]∧H e=some (.ext (Zdj e C none))∧
 ∀dx,H dx=none→Q .non (upd (upd H dx (.xd [(f,v)])) e (.ext (Zdj e C (some dx))))
section
variable{Z:Ent K}{H:Hp}{σ:L2.St}{E:Ends}{Q:VK}
@[simp] noncomputable def Z2o(c f:Str)(fe:FE):FS:=fun δ=>(fe δ).bind fun p=>(frz p.1 p.2).bind fun q=>match q.1 with
 | .lst ds=>some (.ex ⟨c,[f],[.lst ds]⟩ q.2)
 |_=>none
@[simp] noncomputable def Z2p(c f:Str)(fe:FE):FS:=fun δ=>(fe δ).bind fun p=>(frz p.1 p.2).bind fun q=>some (.ex ⟨c,[f],[q.1]⟩ q.2)
@[simp] noncomputable def Z3w(cs:List Str)(f:Str):D→Option SV
 | .exc c ks vs=>if c∈cs then((ks.zip vs).lookup f).bind fun d=>some (.fz d)else none
 |_=>none
end
section
variable{X:Cx}{Z:Ent X.K}{a b c:Expr}{fa fb fc:FE}{pos:Pos}
end
end DL
namespace DL
open PySem PySem.Spec PyProof.Rows L2
variable{K:PySem.W.Frag}
noncomputable abbrev Zr9(H:Hp)(bs:List Addr)(xss:List (List Str)):Prop:=Paired (fun(b:Addr) (xs:List Str)=>H b=some (.tup (xs.map V.str))) bs xss
open Classical in
noncomputable def eqT(H:Hp)(ss:List Str):Value→Bool:=fun w=>decide (∃b,w= .ref b∧H b=some (.tup (ss.map V.str)))
section
variable{X:Cx}{pins:List (Addr×Obj)}{σ:L2.St}{H:Hp}{s:Shared}
noncomputable def rInP(K:PySem.W.Frag)(neg:Bool):R2:=fun x y H Q=>∃b ss a bs xss,x= .ref b∧H b=some (.tup (ss.map V.str))∧y= .ref a∧SqL K H a (bs.map V.ref)∧Zr9 H bs xss∧Q (.bl (if neg then !(xss.any fun xs=>decide (xs=ss))else xss.any fun xs=>decide (xs=ss))) H
noncomputable def Z07(K:PySem.W.Frag):V→List V→Hp→VK→Prop:=fun x xs H Q=>∃b ss a bs xss j,xs=[.ref b]∧H b=some (.tup (ss.map V.str))∧x= .ref a∧SqL K H a (bs.map V.ref)∧Zr9 H bs xss∧(xss.findIdx? fun xs=>decide (xs=ss))=some j∧Q (.int (j:Nat)) H
end
@[simp] noncomputable def tl?:List D→Option (List (List Str))
 | []=>some []
 | .tup ds::r=>(strs? ds).bind fun x=>(tl? r).bind fun t=>some (x::t)
 |_=>none
@[simp] noncomputable def inP:D→D→Option SV
 | .tup a,.lst xs=>(strs? a).bind fun ss=>(tl? xs).bind fun xss=>some (.fz (.bl (xss.any fun x=>decide (x=ss))))
 |_,_=>none
@[simp] noncomputable def Z2q:D→D→Option SV
 | .tup a,.lst xs=>(strs? a).bind fun ss=>(tl? xs).bind fun xss=>some (.fz (.bl (!(xss.any fun x=>decide (x=ss)))))
 |_,_=>none
@[simp] noncomputable def Z2r:List D→Option SV
 | [.lst xs,.tup a]=>(strs? a).bind fun ss=>(tl? xs).bind fun xss=>(xss.findIdx? fun x=>decide (x=ss)).bind fun j=>some (.fz (.int (j:Nat)))
 |_=>none
section
variable{Z:Ent K}
end
section
variable{X:Cx}{Z:Ent X.K}{a b c:Expr}{fa fb fc:FE}{pos:Pos}
end
end DL
namespace DL
open PySem PySem.Spec PyProof.Rows L2
variable{K:PySem.W.Frag}
section
variable{Z:Ent K}{H:Hp}{σ:L2.St}{Q:VK}
@[simp] noncomputable def Z3x(k0:Str)(f0:FE)(j:Nat)(f1:FE):FE:=fun δ=>match δ[j]? with
 |some (some (.fz (.str x)))=>(Zh f0 (Zh f1 Zs) δ).bind fun p=>match p.1 with
  | [v0,v1]=>if k0=x then none else some (.tmp (.oK [.inr k0,.inr x] [v0,v1]),p.2)
  |_=>none
 |_=>none
end
section
variable{X:Cx}{Z:Ent X.K}{a b c:Expr}{fa fb fc:FE}{pos:Pos}
end
end DL
namespace L2
open PySem PySem.Spec PyProof.Rows
section
variable{X:Cx}
noncomputable def Z08(K:PySem.W.Frag):V→List V→Hp→VK→Prop:=fun x xs H Q=>∃p ys y,x= .ref p∧xs=[y]∧SqL K H p ys∧Z7 y=true∧ys.all Z7=true∧Q (.int ((ys.countP fun z=>eqV z y):Nat)) H
noncomputable def Z2s:V→List V→Hp→VK→Prop:=fun x xs H Q=>∃a b i,x= .str a∧xs=[.str b,.int i]∧Q (.int (Txt.find3 a b i)) H
end
end L2
namespace DL
open PySem PySem.Spec PyProof.Rows L2
variable{K:PySem.W.Frag}
section
variable{Z:Ent K}{H:Hp}{σ:L2.St}{Q:VK}{E:Ends}
@[simp] noncomputable def Z2t:List D→Option SV
 | [.lst xs,x]=>if x.isFlat=true∧xs.all D.isFlat=true then some (.fz (.int ((xs.countP fun y=>eqFl y x):Nat)))else none
 |_=>none
@[simp] noncomputable def Z2u:List D→Option SV
 | [.str a,.str b,.int i]=>some (.fz (.int (Txt.find3 a b i)))
 |_=>none
@[simp] noncomputable def augF(i:Nat)(j:Int):FS:=fun δ=>match δ[i]? with
 |some (some (.fz (.int x)))=>some (.nx (δ.set i (some (.fz (.int (x+j))))))
 |_=>none
@[simp] noncomputable def Z3y:FE:=fun δ=>some (.tmp (.oL none [[]]),δ)
noncomputable def Zxo(i:Nat):FS:=fun δ=>match δ[i]? with
 |some (some (.oL p xss))=>if xss.length<PySem.sizeLine then some (.nx (δ.set i (some (.oL p (xss++[[]])))))else none
 |_=>none
@[simp] theorem Zy5{i:Nat}{δ:DSt}{p:Option Addr}{xss:List (List D)}(hi:δ[i]? =some (some (.oL p xss)))(hz:xss.length<PySem.sizeLine):Zxo i δ=some (.nx (δ.set i (some (.oL p (xss++[[]]))))):=by
 unfold Zxo;rw[hi];exact if_pos hz
noncomputable abbrev tTop(K:PySem.W.Frag)(i:Nat):TE:=tOp (rIxL K) (tVar i) (tC (.int (-1)))
noncomputable def Zy6(i:Nat)(fe:FE):FS:=fun δ=>match δ[i]? with
 |some (some (.oL _ xss0))=>if xss0.length=0 then none else(fe δ).bind fun q=>(frz q.1 q.2).bind fun r=>match r.2[i]? with
  |some (some (.oL p xss))=>(xss[xss.length- 1]?).bind fun xs=>if xs.length<PySem.sizeLine then some (.nx (r.2.set i (some (.oL p (xss.set (xss.length- 1) (xs++[r.1]))))))else none
  |_=>none
 |_=>none
end
end DL
namespace DL
open PySem PySem.Spec PyProof.Rows L2
variable{K:PySem.W.Frag}
section
variable{Z:Ent K}{H:Hp}{σ:L2.St}{Q:VK}{E:Ends}
noncomputable def Zxp(i:Nat):FE:=fun δ=>match δ[i]? with
 |some (some (.oL _ xss))=>some (.tmp (.fz (.int (xss.length:Nat))),δ)
 |_=>none
@[simp] theorem Zy7{i:Nat}{δ:DSt}{p:Option Addr}{xss:List (List D)}(hi:δ[i]? =some (some (.oL p xss))):Zxp i δ=some (.tmp (.fz (.int (xss.length:Nat))),δ):=by unfold Zxp;rw[hi]
noncomputable abbrev Z3z(K:PySem.W.Frag):List V→Hp→VK→Prop:=fun xs H Q=>∃p ys,xs=[V.ref p]∧(SqL K H p ys∨SqT K H p ys)∧Q (.int ys.length) H
noncomputable def Z09(i:Nat):FE:=fun δ=>match δ[i]? with
 |some (some (.oL _ xss))=>(xss[xss.length- 1]?).bind fun xs=>some (.tmp (.fz (.int (xs.length:Nat))),δ)
 |_=>none
noncomputable def Z1a(i:Nat):FE:=fun δ=>match δ[i]? with
 |some (some (.oL _ xss))=>(xss[xss.length- 1]?).bind fun xs=>(xs[xs.length- 1]?).bind fun d=>some (.tmp (.fz d),δ)
 |_=>none
noncomputable def Zkj(i:Nat):FE:=fun δ=>match δ[i]? with
 |some (some (.oL _ (xs::_)))=>some (.tmp (.fz (.tup xs)),δ)
 |_=>none
@[simp] theorem Zua{i:Nat}{δ:DSt}{p:Option Addr}{xss:List (List D)}{xs:List D}(hi:δ[i]? =some (some (.oL p (xs::xss)))):Zkj i δ=some (.tmp (.fz (.tup xs)),δ):=by unfold Zkj;rw[hi]
noncomputable abbrev Z30(K:PySem.W.Frag):List V→Hp→VK→Prop:=fun xs H Q=>∃p ys,xs=[V.ref p]∧((SqL K H p ys∧∀l,H l=none→Q (.ref l) (upd H l (.tup ys)))∨(SqT K H p ys∧Q (.ref p) H))
noncomputable def Z31(j i:Nat):FS:=fun δ=>match δ[i]? with
 |some (some (.oL p xss))=>(xss[xss.length- 1]?).bind fun xs=>if i≠j∧j<δ.length then some (.nx ((δ.set i (some (.oL p xss.dropLast))).set j (some (.ol xs))))else none
 |_=>none
noncomputable def hole(H:Hp)(ns:Zk):Hp:=fun b=>if b∈adr ns then none else H b
theorem Zub{ns:Zk}:Same (hole H ns) H:=fun b o e=>by
 unfold hole at e
 split at e
 ·cases e
 ·exact e
theorem Zuc{ns:Zk}{b:Addr}(h:b∈adr ns):hole H ns b=none:=if_pos h
theorem Zqt{ns:Zk}{b:Addr}(h:b∉adr ns):hole H ns b=H b:=if_neg h
noncomputable def spM(K:PySem.W.Frag)(g:Addr→List (List D)→Option (List (List D))):Sp:=fun vs H Q _=>∃F a xss ws ns yss,vs=[V.ref a]∧Same F H∧Kids K F xss ws ns∧(adr ((a,HO.lst ws)::ns)).Nodup∧(∀p∈(a,HO.lst ws)::ns,F p.1=none∧H p.1=some p.2)∧g a xss=some yss∧
 ∀H' F' ws' ns',Same (hole H ((a,.lst ws)::ns)) H'→Same F F'→Same F' H'→(∀(b:Addr) (o:HO),F' b=some o→F b=some o∨hole H ((a,.lst ws)::ns) b=none)→Kids K F' yss ws' ns'→(adr ((a,HO.lst ws')::ns')).Nodup→
  (∀p∈(a,HO.lst ws')::ns',F' p.1=none∧hole H ((a,.lst ws)::ns) p.1=none∧H' p.1=some p.2)→Q .non H'
@[simp] noncomputable def Zsa(n:Nat)(a:Addr)(xss:List (List D)):DSt:=some (.oL (some a) xss)::List.replicate (n- 1) none
@[simp] noncomputable def Zxq(a:Addr)(o:Option (Option SV)):Option (List (List D)):=match o with
 |some (some (.oL (some b) yss))=>if b=a then some yss else none
 |_=>none
@[simp] noncomputable def outM(f:FS)(n:Nat)(a:Addr)(xss:List (List D)):Option (List (List D)):=match f (Zsa n a xss)with
 |some (.nx δ)=>Zxq a δ[0]?
 |_=>none
open Classical in
noncomputable def mutF(i:Nat)(g:Addr→List (List D)→Option (List (List D))):FS:=fun δ=>match δ[i]? with
 |some (some (.oL p xss))=>if h:∃o,∀a,g a xss=some o then some (.nx (δ.set i (some (.oL p h.choose))))else none
 |_=>none
end
end DL
namespace DL
open PySem PySem.Spec PyProof.Rows L2
section
variable{X:Cx}{Z:Ent X.K}{a b c:Expr}{fa fb fc:FE}{pos:Pos}
end
end DL
namespace L2
open PySem PySem.Spec PyProof.Rows
section
variable{X:Cx}
noncomputable abbrev Z32:List V→Hp→VK→Prop:=fun xs H Q=>∃(x:Str) (n:Int),xs=[V.str x]∧PySem.intText? x=some n∧x.length≤640∧Q (.int n) H
end
end L2
namespace DL
open PySem PySem.Spec PyProof.Rows L2
variable{K:PySem.W.Frag}
noncomputable def Z33:List D→Option SV
 | [.str x]=>if x.length≤640 then(PySem.intText? x).bind fun n=>some (.fz (.int n))else none
 |_=>none
section
variable{X:Cx}{Z:Ent X.K}{a:Expr}{fa:FE}{pos:Pos}
end
end DL
namespace L2
open PySem PySem.Spec PyProof.Rows
section
variable{X:Cx}
noncomputable def Z34(K:PySem.W.Frag):V→List V→Hp→VK→Prop:=fun x vs H Q=>∃l b xs zs,x= .ref l∧vs=[.ref b]∧H l=some (.lst xs)∧SqT K H b zs∧xs.length+zs.length≤sizeLine∧Q .non (upd H l (.lst (xs++zs)))
noncomputable def Z2v:List V→Hp→VK→Prop:=fun xs H Q=>∃p kvs,xs=[.ref p]∧RdK H p kvs∧∀l,H l=none→Q (.ref l) (upd H l (.lst (kvs.map fun kv=>kV kv.1)))
end
end L2
namespace DL
open PySem PySem.Spec PyProof.Rows L2
variable{K:PySem.W.Frag}
noncomputable def Z1b:List D→Option SV
 | [.dK ks _]=>some (.ol (ks.map keyD))
 |_=>none
@[simp] theorem Zy8(ks:List Key)(vs:List D):Z1b [.dK ks vs]=some (.ol (ks.map keyD)):=rfl
section
variable{Z:Ent K}{H:Hp}{σ:L2.St}{Q:VK}{E:Ends}
@[simp] noncomputable def SV.tup?:RV→Option (List D)
 | .tmp (.fz (.tup ys))=>some ys
 |_=>none
@[simp] noncomputable def Z35(i:Nat)(fe:FE):FS:=fun δ=>match δ[i]? with
 |some (some (.ol _))=>(fe δ).bind fun p=>(SV.tup? p.1).bind fun ys=>match p.2[i]? with
  |some (some (.ol xs))=>if xs.length+ys.length≤PySem.sizeLine then some (.nx (p.2.set i (some (.ol (xs++ys)))))else none
  |_=>none
 |_=>none
end
section
variable{X:Cx}{Z:Ent X.K}{a b c:Expr}{fa fb fc:FE}{pos:Pos}
end
end DL
namespace DL
open PySem PySem.Spec PyProof.Rows L2
section
variable{K:PySem.W.Frag}{Z:Ent K}{H:Hp}{σ:L2.St}{Q:VK}
@[simp] noncomputable def bmX(T:String)(g:List D→Option SV)(fo:FE)(fa:FAX):FX:=fun δ=>(fo δ).bind fun p=>(rdv p.1 p.2).bind fun d0=>if tyOk T d0=true then(fa p.2).bind fun
 | .x e δ2=>some (.x e δ2)
 | .v rvs δ2=>(Zcl (p.1::rvs) δ2).bind fun ds=>(g ds).bind fun sv=>some (.v (.tmp sv) δ2)else none
end
section
variable{X:Cx}{Z:Ent X.K}{a b:Expr}{fa:FE}{fx:FX}
end
end DL
namespace DL
open PySem PySem.Spec PyProof.Rows L2
section
variable{K:PySem.W.Frag}{Z:Ent K}{H:Hp}{σ:L2.St}{Q:VK}{E:Ends}
inductive MR where
 |v (yss:List (List D))|x (e:Exn)
noncomputable def spMX(K:PySem.W.Frag)(g:Addr→List (List D)→Option MR):Sp:=fun vs H Q E=>∃F a xss ws ns r,vs=[V.ref a]∧Same F H∧Kids K F xss ws ns∧(adr ((a,HO.lst ws)::ns)).Nodup∧(∀p∈(a,HO.lst ws)::ns,F p.1=none∧H p.1=some p.2)∧g a xss=some r∧match r with
 | .v yss=>∀H' F' ws' ns',Same (hole H ((a,.lst ws)::ns)) H'→Same F F'→Same F' H'→(∀(b:Addr) (o:HO),F' b=some o→F b=some o∨hole H ((a,.lst ws)::ns) b=none)→Kids K F' yss ws' ns'→(adr ((a,HO.lst ws')::ns')).Nodup→
   (∀p∈(a,HO.lst ws')::ns',F' p.1=none∧hole H ((a,.lst ws)::ns) p.1=none∧H' p.1=some p.2)→Q .non H'
 | .x e=>∀cls od H' F',Same (hole H ((a,.lst ws)::ns)) H'→Same F F'→Same F' H'→(∀(b:Addr) (o:HO),F' b=some o→F b=some o∨hole H ((a,.lst ws)::ns) b=none)→Zju K F' e cls od→E cls od H'
@[simp] noncomputable def Z36(f:FS)(n:Nat)(a:Addr)(xss:List (List D)):Option MR:=match f (Zsa n a xss)with
 |some (.nx δ)=>(Zxq a δ[0]?).map .v
 |some (.ex e _)=>some (.x e)
 |_=>none
open Classical in
noncomputable def Z37(i:Nat)(g:Addr→List (List D)→Option MR):FS:=fun δ=>match δ[i]? with
 |some (some (.oL p xss))=>if h:∃o,∀a,g a xss=some o then(match h.choose with
  | .v yss=>some (.nx (δ.set i (some (.oL p yss))))
  | .x e=>some (.ex e (δ.set i none)))else none
 |_=>none
noncomputable def Zy9(i:Nat)(fx:FX):FS:=fun δ=>match δ[i]? with
 |some (some (.oL _ xss0))=>if xss0.length=0 then none else(fx δ).bind fun
  | .x e δ1=>some (.ex e δ1)
  | .v rv δ1=>(frz rv δ1).bind fun r=>match r.2[i]? with
   |some (some (.oL p xss))=>(xss[xss.length- 1]?).bind fun xs=>if xs.length<PySem.sizeLine then some (.nx (r.2.set i (some (.oL p (xss.set (xss.length- 1) (xs++[r.1]))))))else none
   |_=>none
 |_=>none
end
section
variable{X:Cx}{Z:Ent X.K}{a b c:Expr}{fa fb fc:FE}{fx:FX}{pos:Pos}
end
end DL
namespace L2
open PySem PySem.Spec PyProof.Rows
end L2
namespace L2
open PySem PySem.Spec PyProof.Rows
section
variable{X:Cx}
noncomputable def Z38(K:PySem.W.Frag):R2:=fun x y H Q=>∃a k xs,x= .ref a∧y= .int k∧SqT K H a xs∧xs≠[]∧2≤k∧k≤1000∧xs.length≤1000∧∀p,H p=none→Q (.ref p) (upd H p (.tup (List.replicate k.toNat xs).flatten))
end
end L2
namespace DL
open PySem PySem.Spec PyProof.Rows L2
variable{K:PySem.W.Frag}
section
variable{Z:Ent K}
noncomputable def Z39:D→D→Option SV
 | .tup xs,.int k=>if xs.isEmpty=false∧2≤k∧k≤1000∧xs.length≤1000 then some (.fz (.tup (List.replicate k.toNat xs).flatten))else none
 |_,_=>none
end
section
variable{X:Cx}{Z:Ent X.K}{a b:Expr}{fa fb:FE}{pos:Pos}
end
end DL
namespace L2
open PySem PySem.Spec PyProof.Rows
section
variable{X:Cx}
noncomputable def Zof:V→List V→Hp→VK→Prop:=fun x xs H Q=>∃a b k,x= .str a∧xs=[.str b,.int k]∧(b.length==0)=false∧0≤k∧k≤1000∧a.length≤sizeLine∧(Txt.splitMax a b k).length≤sizeLine∧∀p,H p=none→Q (.ref p) (upd H p (.lst ((Txt.splitMax a b k).map V.str)))
theorem Zog:MtR X "str.split" Zof:=by
 intro pins s σ H x xs v us Q I rx rs h
 obtain⟨a,b,k,rfl,rfl,hb,k0,k1,ha,hz,q⟩:=h
 obtain⟨t,rfl⟩:=rx
 cases rs with
 |cons r1 rs=>
 cases rs with
 |cons r2 rs=>
 cases rs
 obtain⟨t1,rfl⟩:=r1
 obtain⟨t2,rfl⟩:=r2
 have hk:(decide (k< -(2^63:Int))||decide (k≥2^63))=false:=by
  rw[decide_eq_false (by omega),decide_eq_false (by omega)];rfl
 have one:Txt.splitMax a b k=[a]→∀tk,EP X pins σ Q (.ref s.heap.objs.size) {s with toks:=tk,heap:=s.heap.push {cls:=.type "list",data:=.seq #[.str a t]}}:=fun e tk=>by
  rw[e]at q
  exact⟨.ref _,_,I.lnew (t':=tk) (ys:=[.str a]) (its:=[.str a t]) (.cons ⟨t,rfl⟩ .nil) (by show 1≤sizeLine;decide),rfl,q _ I.fresh⟩
 cases h1:(decide (a.length<b.length)||decide (Builtin.Str.strKind a<Builtin.Str.strKind b))
 ·cases hf:(Builtin.Str.occurrences a b 0 a.length (PySem.limitOf a k)).isEmpty
  ·have e:Txt.splitMax a b k=Builtin.Str.partsBetween a (Builtin.Str.occurrences a b 0 a.length (PySem.limitOf a k)) b.length:=(if_neg (ne_true_of_eq_false h1)).trans (if_neg (ne_true_of_eq_false hf))
   rw[e]at hz q
   refine call_meets F.slot_str_split (typeIs_str _ _ _) F.entry_str_split (F.args_str_split_3 _ _ _) (meets_str_split_sep_max a b k t t1 t2 hk h1 hb hf ha hz) ?_
   rw[strsFrom_eq]
   have hv:=Zed (numbered s.toks (Builtin.Str.partsBetween a (Builtin.Str.occurrences a b 0 a.length (PySem.limitOf a k)) b.length))
   rw[numbered_texts]at hv
   exact⟨.ref _,_,I.lnew (t':=_) hv (by rw[List.length_map];exact hz),rfl,q _ I.fresh⟩
  ·exact call_meets F.slot_str_split (typeIs_str _ _ _) F.entry_str_split (F.args_str_split_3 _ _ _) (meets_str_split_max_not_found a b k t t1 t2 hk h1 hb hf) (one ((if_neg (ne_true_of_eq_false h1)).trans (if_pos hf)) s.toks)
 ·exact call_meets F.slot_str_split (typeIs_str _ _ _) F.entry_str_split (F.args_str_split_3 _ _ _) (meets_str_split_max_cannot_occur a b k t t1 t2 hk h1) (one (if_pos h1) s.toks)
end
end L2
namespace DL
open PySem PySem.Spec PyProof.Rows L2
variable{K:PySem.W.Frag}
section
variable{Z:Ent K}
@[simp] noncomputable def Zf4:List D→Option SV
 | [.str a,.str b,.int k]=>if(b.length==0)=false∧0≤k∧k≤1000∧a.length≤PySem.sizeLine∧(Txt.splitMax a b k).length≤PySem.sizeLine then some (.ol ((Txt.splitMax a b k).map D.str))else none
 |_=>none
theorem Zqu:Zm9 Z Zof Zf4:=by
 intro F H σ δ own vs ds sv Q s r e k
 unfold Zf4 at e
 split at e
 ·rename_i a b n
  split at e
  ·rename_i h
   cases e
   cases r with
   |cons h1 t=>cases t with
    |cons h2 t=>cases t with
     |cons h3 t=>cases t;exact⟨_,_,rfl,a,b,n,h1.str,by rw[h2.str,h3.int],h.1,h.2.1,h.2.2.1,h.2.2.2.1,h.2.2.2.2,fun p hp=>k.lst s (Zee _) hp⟩
  ·cases e
 ·cases e
end
section
variable{X:Cx}{Z:Ent X.K}{a b c:Expr}{fa fb fc:FE}
theorem Zqv{apos cpos:Pos}(ha:PE X a (Zb Z fa))(hb:PE X b (Zb Z fb))(hc:PE X c (Zb Z fc))(hbase:attributeBase a "split" X.env (eval a X.env)=eval a X.env:=by rfl)
  (hfew:((backTo cpos (starEach [b,c] X.env)).all (fun x=>!x.1)&&(backToKw cpos (keywordEach [] X.env)).all (fun x=>x.1.isSome)&&decide ([b,c].length+([]:List Keyword).length+(if([]:List Keyword).isEmpty then 0 else 1)<30))=true:=by rfl)
  (hline:(apos.endLine==cpos.line)=true:=by rfl) (hs:starEach [b,c] X.env=(false,eval b X.env)::starEach [c] X.env:=by rfl) (hs2:starEach [c] X.env=(false,eval c X.env)::starEach [] X.env:=by rfl) (hpl:(backTo cpos (starEach [c] X.env)).any (·.1)=false:=by rfl):
  PE X (.Call (.Attribute a "split" apos) [b,c] [] cpos) (Zb Z (bmF "str" Zf4 fa (Zc fb (Zc fc Zi)))):=
 (Zgy PySem.F.plainAttrs_str PySem.F.slot_str_split PySem.F.type_str_split Zog ha (Zj hb (Zj hc Zag hs2) hs) hbase hfew hline hs hpl).imp fun _ _ _ h=>l_bm Zqu h
end
end DL
namespace L2
open PySem PySem.Spec PyProof.Rows
section
variable{M:Model}{A:Around}{E:Value→Shared→Prop}{s:Shared}{env:Env}
theorem cw_typeK{pos:Pos}{T:String}{xs:List (Bool×Sem Value)}{ks:List (Option Str×Sem Value)}{Q:Value→Shared→Prop}(h1:xs.any (·.1)=false)(h2:ks.any (·.1.isNone)=false)
  (k:wpAny M A (evalArgs (.type T) true xs ks) (fun z s1=>wpAny M A (call (.type T) z.pos z.kw) Q E s1) E s):wpAny M A (callWith pos (.type T) [] xs ks) Q E s:=by
 unfold callWith
 refine wpAny_bind (wpAny_holding (wpAny_mono k (fun z s1 k1=>wpAny_bind (wpAny_standAt ?_)) fun _ _ y=>y))
 simp only[h1,h2,Bool.or_false]
 refine wpAny_bind (wpAny_pure (wpAny_bind (wpAny_mono k1 (fun r s2 kr=>wpAny_bind (wpAny_holding (wpAny_point (wpAny_pure kr)))) fun _ _ y=>y)))
end
section
variable{prog:Program}{w:World}{A:Around}{E:Value→Shared→Prop}{s:Shared}
theorem Z1c{T newId:String}{self x:Value}{ks:List (Str×Value)}(hl:typeLookup (.type T) "__init__"=pure (some (.builtin "object.__init__")))
  (hm:Bind.madeBy (.type T)=pure (some newId)) (hne:(some newId !=some "object.__new__")=true):Meets (Builtin.«object.__init__» ⟨[self,x],ks⟩) (fun _ R s=>s.TypeIs self T∧R (.ok (.ret .none)) s):=
 .of_wp fun P W B R s q=>by
  obtain⟨hT,q⟩:=q
  repeat (any_goals (first|assumption|wp_step))
  exact⟨_,rfl,q⟩
theorem ctK{T newId:String}{Bn:Builtin}{x:Value}{ks:List (Str×Value)}{S:PySem.Spec}{Q:Value→Shared→Prop}(ft:TypeCalled T newId "object.__init__")
  (hne:(some newId !=some "object.__new__")=true) (hct:checkTypeCall T ⟨[x],ks⟩=pure ()) (hcn:checkBuiltinCall newId ⟨[.type T,x],ks⟩=pure ())
  (hok:∀obj,argsOk "object.__init__" ⟨[obj,x],ks⟩) (en:entryFor table newId=some Bn) (g:Meets (Bn ⟨[.type T,x],ks⟩) S)
  (q:S A.in1 (wants (fun obj s1=>s1.TypeIs obj T∧Q obj s1) E) s):wpAny (model prog w) A (call (.type T) [x] ks) Q E s:=by
 obtain⟨c,tl,hmro⟩:=ft.mro
 have hmade:=ft.made;have hsub:=ft.sub;have hnt:=ft.notType;have hcc:=ft.canCreate
 refine wpAny_call (codeAny_of_tree (show wpAny _ _ (callAny (.type T) _) _ _ _ from wpAny_pure ⟨Code.quiet_builtin _ (by decide+kernel),codeAny_builtin F.entry_type_call ?_⟩))
 rw[Around.under_plain (weight_type_call_type T [x] ks) (units_type_call_type T [x] ks)]
 repeat (any_goals (first|assumption|wp_step))
 refine codeAny_mono (codeAny_call_builtin ft.plain en (wpAny_of_eq hcn (g prog w A.in1 _ s q))) fun r s1 hr=>?_
 match r,hr with
 | .error e,hr=>exact hr
 | .ok (.ret obj),hr=>
  obtain⟨hT,hq⟩:=hr
  have hli:=ft.init.lookup;have hbi:=ft.init.bind obj
  repeat (any_goals (first|assumption|wp_step))
  refine codeAny_mono (codeAny_call_builtin ft.init.plain F.entry_object_init (ft.init.check _ _ _ _ _ _ _ _ hT (hok obj) (Z1c (T:=T) (self:=obj) (x:=x) (ks:=ks) hli hmade hne prog w A.in1 (wants (fun y s2=>y= .none∧Q obj s2) E) s1 ⟨hT,rfl,hq⟩))) fun r2 s2 hr2=>?_
  match r2,hr2 with
  | .error e,hr2=>exact hr2
  | .ok (.ret y),hr2=>
   obtain⟨rfl,hq2⟩:=hr2
   repeat (any_goals (first|assumption|wp_step))
theorem Zoh(l:Addr)(us:Array Value)(n:Nat)(dct:Option Addr)(sl:Array (Option Value))(t:Tok):
  Meets (Builtin.«enumerate.__new__» ⟨[.type "enumerate",.ref l],[("start",.int 1 t)]⟩) (fun _ R s=>s.heap.get? l=some {cls:=.type "list",dict:=dct,data:=.seq us n,slots:=sl}∧
   R (.ok (.ret (.ref (s.heap.push {cls:=.type "list_iterator",data:=.fields #[.ref l,.int 0 0]}).objs.size))) {s with heap:=(s.heap.push {cls:=.type "list_iterator",data:=.fields #[.ref l,.int 0 0]}).push {cls:=.type "enumerate",data:=.fields #[.none,.bool false,.ref s.heap.objs.size,rawInt 1,.none,.none]}}):=
 .of_wp fun P W B R s q=>by
  obtain⟨x1,x2,x3,x4,x5⟩:=s;obtain⟨hl,q⟩:=q;have hsub:=sub_enumerate;have f1:=AutoSeq1.idx_int
  have hL:Heap.IsList (Shared.heap ⟨x1,x2,x3,x4,x5⟩) l us:=⟨_,hl,rfl,n,rfl⟩
  wp_walk using wpAny_loadPart' hl
  refine wpAny_stack_any fun st=>wpAny_pure ?_;split
  ·rename_i c _ _ _ _ _
   cases(c==Value.type "enumerate")
   ·wp_walk using wpAny_loadPart' hl,wpAny_pyIter_list hL
    exact⟨_,rfl,q⟩
   ·wp_walk using wpAny_loadPart' hl,wpAny_pyIter_list hL
    exact⟨_,rfl,q⟩
  ·wp_walk using wpAny_loadPart' hl,wpAny_pyIter_list hL
   exact⟨_,rfl,q⟩
theorem Zqw{it:Addr}{fp:List Addr}{n:Nat}{P:Nat→Value→Prop}{St:Nat→Heap→Prop}(D:Draws prog w A it fp n P St):Draws prog w A it fp (n+1) (fun i v=>∃j,i=j+1∧P j v) (fun i h=>∃j,i=j+1∧St j h)where
 live:=fun i h ⟨j,_,st⟩=>D.live j h st
 frame:=fun i h h' ⟨j,e,st⟩ k=>⟨j,e,D.frame j h h' st k⟩
 item:=fun i s Q E hi ⟨j,e,st⟩ hQ=>D.item j s Q E (by omega) st fun x h' tk hP st' hs=>hQ x h' tk ⟨j,e,hP⟩ ⟨j+1,by omega,st'⟩ hs
 done:=fun s Q E ⟨j,e,st⟩ hE=>D.done s Q E (Nat.succ.inj e▸st) hE
theorem Zbx{e it l:Addr}{i:Nat}{c:Int}{items:Array Value}{old:Value}{Q:Option Value→Shared→Prop}(hh:A.handled=none)(he:IsEnum s.heap e it c old)(hit:s.heap.IsListIter it l i)(hl:s.heap.IsList l items)(hx:items[i]? =none)
  (hQ:∀h',Heap.ExtBut it s.heap h'→Q none {s with heap:=h'}):wpAny (model prog w) A (pyNext (.ref e)) Q E s:=by
 have hT:s.TypeIs (.ref e) "enumerate":=⟨_,he,rfl⟩;unfold pyNext
 refine wpAny_bind (wpAny_attempt (wpAny_callSpecial?_slot (name:=Str.ofString "__next__") hT F.slot_enumerate_next (wpAny_call_entry F.slot_enumerate_next hT F.entry_enumerate_next ?_ (F.args_enumerate_next_1 _))))
 show wpAny _ _ (field (.ref e) 2 >>=_) _ _ _;refine wpAny_bind (wpAny_field he rfl (x:=.ref it) rfl ?_)
 refine wpAny_bind (wpAny_nextOf_list_end (by first|exact hh| (rw[show A.in1.handled=A.handled from rfl];exact hh)) hit hl hx fun h' x he' hx'=>?_);obtain⟨o,ho,hc⟩:=hx'
 refine wpAny_bind (wpAny_isInstance (T:="StopIteration") (b:=true) ⟨o,ho,hc⟩ isSubtype_stop ?_);exact wpAny_pure (hQ _ he')
theorem Zlj{l:Addr}{us:Array Value}{t:Tok}{Q:Value→Shared→Prop}(hL:s.heap.IsList l us)
  (h:∀h',IsEnum h' (s.heap.objs.size+1) s.heap.objs.size 1 .none→h'.IsListIter s.heap.objs.size l 0→h'.objs.size=s.heap.objs.size+2→(∀b o,s.heap.get? b=some o→h'.get? b=some o)→Q (.ref (s.heap.objs.size+1)) {s with heap:=h'}):
  wpAny (model prog w) A (call (.type "enumerate") [.ref l] [("start",.int 1 t)]) Q E s:=by
 obtain⟨⟨c,dct,dt,sl⟩,hl,hc,n,hd⟩:=hL;replace hc:c= .type "list":=hc;replace hd:dt= .seq us n:=hd;subst hc hd
 refine ctK F.called_enumerate (by decide) (by kernel_rfl) (by kernel_rfl) (fun obj=>by unfold argsOk;kernel_rfl) F.entry_enumerate_new (Zoh l us n dct sl t) ⟨hl,?_⟩
 have hz:(s.heap.push {cls:=.type "list_iterator",data:=.fields #[.ref l,.int 0 0]}).objs.size=s.heap.objs.size+1:=Heap.size_push ..
 show _∧_;rw[hz]
 have he:IsEnum ((s.heap.push {cls:=.type "list_iterator",data:=.fields #[.ref l,.int 0 0]}).push {cls:=.type "enumerate",data:=.fields #[.none,.bool false,.ref s.heap.objs.size,rawInt 1,.none,.none]}) (s.heap.objs.size+1) s.heap.objs.size 1 .none:=by
  have:=Heap.get?_push_size (s.heap.push {cls:=.type "list_iterator",data:=.fields #[.ref l,.int 0 0]}) (o:={cls:=.type "enumerate",data:=.fields #[.none,.bool false,.ref s.heap.objs.size,rawInt 1,.none,.none]}) rfl
  rw[hz]at this;exact this
 exact⟨⟨_,he,rfl⟩,h _ he ⟨_,Heap.get?_push_of_some _ (Heap.get?_push_size _ rfl),rfl,rfl⟩ (by rw[Heap.size_push,hz]) fun b o x=>Heap.get?_push_of_some _ (Heap.get?_push_of_some _ x)⟩
end
section
variable{X:Cx}
noncomputable def Ite1(K:PySem.W.Frag)(a:Addr):It:=
 ⟨fun i H=>∃xs x,SqL K H a xs∧xs[i]? =some x,fun i H x H'=>∃p v,x= .ref p∧H p=none∧H'=upd H p (.tup [.int ((i+1:Nat):Int),v])∧∀xs,SqL K H a xs→xs[i]? =some v,fun i H=>∃xs,SqL K H a xs∧xs.length≤i⟩
theorem Zlk{P:Program}{w:World}{K:PySem.W.Frag}{elts:List Expr}{kk:Nat}{tpos:Pos}(a e it:Addr)(hei:e≠it):Turn P w K (.Tuple elts kk tpos) (Ite1 K a) [e,it] e (fun i h=>(∃old,IsEnum h e it ((i+1:Nat):Int) old)∧h.IsListIter it a i)where
 mem:=by simp
 obj:=fun i h st b hb=>by
  have hb':b=e∨b=it:=by simpa using hb
  rcases hb' with z|z
  ·subst z
   obtain⟨old,q⟩:=st.1
   exact⟨_,q,fun v y=>by
    have y':Data.fields _=Data.cell v:=y
    cases y'⟩
  ·subst z
   obtain⟨o,q,c,d⟩:=st.2
   exact⟨o,q,fun v y=>by rw[d]at y;cases y⟩
 keep:=fun i h h' st k=>⟨let⟨old,q⟩:=st.1;⟨old,k e (by simp) _ q⟩,st.2.at fun o q=>k it (by simp) o q⟩
 item:=by
  intro X hP hw hK hc i pins s σ H E I hf st hg
  subst hP hw hK
  obtain⟨xs,x,hq,hx⟩:=hg
  obtain⟨its,rv,p,hz⟩:=I.list hq
  obtain⟨u,hu,ru⟩:=rv.get hx
  obtain⟨⟨old,he⟩,hit⟩:=st
  have hl:s.heap.IsList a its.toArray:=p.isList
  have ai:a≠it:=fun z=>by
   obtain⟨o1,q1,c1,_⟩:=hit
   obtain⟨o2,q2,c2,_⟩:=hl
   rw[z,q1]at q2;cases q2
   rw[c1]at c2;exact absurd c2 (by decide)
  have ae:e∉[it,a]:=fun z=>by
   have z':e=it∨e=a:=by simpa using z
   rcases z' with z|z
   ·exact hei z
   ·obtain⟨o2,q2,c2,_⟩:=hl
    rw[←z,he]at q2;cases q2;exact absurd (show Value.type "enumerate"=Value.type "list"from c2) (by decide)
  have D:=Draws.list (prog:=X.prog) (w:=X.w) (A:=X.A.in1) (by first|exact I.ok.hd hc| (rw[show X.A.in1.handled=X.A.handled from rfl];exact I.ok.hd hc)) it a ai its.toArray
  have D1:=Zqw D
  have hlt:i<its.toArray.size:=by
   have:=(List.getElem?_eq_some_iff.mp hu).1
   rw[List.size_toArray];exact this
  refine wpAny_pyNext_enum_itemD (i:=i+1) D1 he ⟨i,rfl,hit,hl⟩ (Nat.succ_lt_succ hlt) hei ae fun y h' tk hy hout st' hT hsz hk=>⟨.ref s.heap.objs.size,rfl,?_⟩
  obtain⟨j,ej,hy⟩:=hy
  have ej:j=i:=by omega
  subst ej
  obtain⟨j',ej',st'⟩:=st'
  have ej':j'=j+1:=by omega
  subst ej'
  refine wpAny_letOwnedTupleGo_enum hout fun h2 he2 hs2=>?_
  have hy':its.toArray[j]? =some y:=hy
  have ey:y=u:=by
   have:its[j]? =some y:=by simpa using hy'
   rw[hu]at this;cases this;rfl
  subst ey
  have kk:∀b o,b≠e→b≠it→s.heap.get? b=some o→h2.get? b=some o:=fun b o h1 h3 q=>(hs2.2 b h1).trans (hk b o h1 h3 q)
  have neT:s.heap.objs.size≠e:=Nat.ne_of_gt (Heap.lt_size he)
  have I2:=I.turnedT (h':=h2) (t':=tk+1) (e:=e) (it:=it) (T:=s.heap.objs.size) (xs:=[.int ((j+1:Nat):Int),x]) (its:=[.int ((j+1:Nat):Int) tk,y]) kk (hf e (by simp)) (hf it (by simp)) rfl ⟨_,(hs2.2 _ neT).trans hT,rfl,_,rfl⟩ (.cons ⟨tk,rfl⟩ (.cons ru .nil)) (by show 2≤sizeLine;decide)
   ⟨_,he2⟩ (let⟨o,q,_⟩:=st'.1;⟨o,(hs2.2 it (Ne.symm hei)).trans q⟩)
  refine⟨.ref s.heap.objs.size,_,I2,rfl,⟨s.heap.objs.size,x,rfl,I.hok.fresh (Nat.le_refl _),rfl,fun ys hy2=>by rw[I.list_inj hy2 hq];exact hx⟩,⟨⟨_,he2⟩,st'.1.at fun o q=>(hs2.2 it (Ne.symm hei)).trans q⟩,fun b hb=>?_⟩
  rw[Zo fun z=>?_]
  ·exact(hf b hb).1
  ·have hb':b=e∨b=it:=by simpa using hb
   rcases hb' with y|y
   ·rw[←z,y]at neT;exact neT rfl
   ·obtain⟨o,q,_⟩:=hit
    rw[y]at z
    exact absurd (Heap.lt_size q) (by rw[z];exact Nat.lt_irrefl _)
 done:=by
  intro X hP hw hK hc i pins s σ H E I hf st hg
  subst hP hw hK
  obtain⟨xs,hq,hx⟩:=hg
  obtain⟨its,rv,p,hz⟩:=I.list hq
  obtain⟨⟨old,he⟩,hit⟩:=st
  obtain⟨f0,f1,f2,f3,f4,f5⟩:=hf it (by simp)
  have hl:=rv.length
  exact Zbx (I.ok.hd hc) he hit p.isList (by simp;omega) fun h' eb=>⟨rfl,I.turned (t':=s.toks) (fun b o hb q=>eb b o hb q) f0 f1 f3 f4 f5⟩
 self:=fun _ _ _ _ _ st h=>let⟨⟨old,he⟩,_⟩:=st;wpAny_pyIter_enum he h
noncomputable def Zsb(K:PySem.W.Frag)(ta:TA):TI:=fun σ H R=>ta σ H fun vs H1=>∃a xs,vs=[.ref a]∧SqL K H1 a xs∧R (Ite1 K a) H1
theorem Zqx{l:Expr}{elts:List Expr}{kk j:Nat}{tpos p pos kp q:Pos}{ta:TA}(hg:Gl X "enumerate")(hm:X.mg "enumerate"=none)(ha:PA X [l] ta)(hs:starEach [l] X.env=[(false,eval l X.env)]:=by rfl)
  (he:eval (.Call (.Name "enumerate" p) [l] [⟨some "start",.Constant (.int 1) j q,kp⟩] pos) X.env=(do callWith pos (←eval (.Name "enumerate" p) X.env) [] (backTo pos (starEach [l] X.env)) (backToKw pos (keywordEach [⟨some "start",.Constant (.int 1) j q,kp⟩] X.env))):=by rfl):
  PI X (.Tuple elts kk tpos) (.Call (.Name "enumerate" p) [l] [⟨some "start",.Constant (.int 1) j q,kp⟩] pos) (Zsb X.K ta):=by
 intro pins s σ H R I h
 rw[he]
 refine wpAny_bind (Zdw I hg hm boot_enumerate (cw_typeK (by rw[hs];rfl) rfl ?_))
 have hb:backTo pos (starEach [l] X.env)=[(false,eval l X.env)]:=by rw[hs];rfl
 rw[hb]
 refine evalArgs_kwB rfl ?_
 rw[←hb]
 refine thn (ha pos pins s σ H _ I h) fun us s1 zq9=>?_
 obtain⟨vs,H1,I1,r1,q1⟩:=zq9
 obtain⟨a,xs,e,hq,k⟩:=q1
 subst e
 obtain⟨u,rfl,ru⟩:=Zcv r1
 cases ru
 refine kws_cons (wpAny_Constant_int (kws_nil ?_))
 have I2:Inv X pins σ H1 {s1 with toks:=s1.toks+1}:=I1.tok _
 show wpAny _ _ (call (.type "enumerate") [.ref a] [("start",.int 1 s1.toks)]) _ _ _
 obtain⟨its,rv,p',hz⟩:=I2.list hq
 refine Zlj p'.isList fun h' he' hit hsz hk=>wpAny_pyIter_enum he' ?_
 have I3:Inv X pins σ H1 {s1 with heap:=h',toks:=s1.toks+1}:=I2.kept (t':=s1.toks+1) hk
 refine⟨s1.heap.objs.size+1,[s1.heap.objs.size+1,s1.heap.objs.size],_,_,H1,rfl,I3,Zlk a _ _ (Nat.succ_ne_self _),⟨⟨.none,by simpa using he'⟩,hit⟩,fun b hb=>?_,k⟩
 have hb':b=s1.heap.objs.size+1∨b=s1.heap.objs.size:=by simpa using hb
 rcases hb' with z|z
 ·subst z;exact I1.fpOk (Nat.le_succ _) (I1.hok.fresh (Nat.le_succ _))
 ·subst z;exact I1.fpOk (Nat.le_refl _) (I1.hok.fresh (Nat.le_refl _))
end
end L2
namespace DL
open PySem PySem.Spec PyProof.Rows L2
variable{K:PySem.W.Frag}
noncomputable def Zem(xs:List D):List D:=(xs.zipIdx 1).map fun p=>.tup [.int (p.2:Nat),p.1]
theorem Zll{xs:List D}{i:Nat}{d:D}(h:(Zem xs)[i]? =some d):∃x,xs[i]? =some x∧d= .tup [.int ((i+1:Nat):Int),x]:=by
 unfold Zem at h
 rw[List.getElem?_map,List.getElem?_zipIdx]at h
 cases e:xs[i]? with
 |none=>rw[e]at h;cases h
 |some x=>rw[e]at h;cases h;exact⟨x,rfl,by rw[Nat.add_comm i 1]⟩
theorem Zlm(xs:List D):(Zem xs).length=xs.length:=by unfold Zem;rw[List.length_map,List.length_zipIdx]
theorem Zhn{F:Hp}{a:Addr}{xs:List D}{vs:List V}(h:SqL K F a vs)(r:Reps K F xs vs):Zch K (Ite1 K a) F (Zem xs):=fun F' H sF sH i=>by
 have q:SqL K H a vs:=Zah (sF.trans sH) h
 refine⟨fun d hd=>?_,fun hl=>⟨vs,q,by rw[←r.length,←Zlm];exact hl⟩⟩
 obtain⟨x,hx,rfl⟩:=Zll hd
 obtain⟨v,h1,h2⟩:=r.get hx
 refine⟨⟨vs,v,q,h1⟩,fun y H' zq9=>?_⟩
 obtain⟨p,w,e1,e2,e3,e4⟩:=zq9
 subst e1 e3
 have e5:=e4 vs q
 rw[h1]at e5;cases e5
 have hp:F' p=none:=sH.free e2
 have sm:Same F' (addL F' [(p,.tup [.int ((i+1:Nat):Int),v])]):=Zan fun z hz=>by obtain rfl:=List.mem_singleton.mp hz;exact hp
 refine⟨Zbp e2,[(p,.tup [.int ((i+1:Nat):Int),v])],nd1,fun z hz=>?_,.tup Z3 (.cons (.int _) (.cons (h2.mono (sF.trans sm)) .nil))⟩
 obtain rfl:=List.mem_singleton.mp hz
 exact⟨e2,Z3⟩
section
variable{Z:Ent K}{H:Hp}{σ:L2.St}{Q:VK}
@[simp] noncomputable def Zoi(fd:FD):FD:=fun δ=>(fd δ).bind fun p=>match p.1 with
 | [.lst xs]=>some (Zem xs,p.2)
 |_=>none
theorem Zqy{fd:FD}{R:It→Hp→Prop}(h:Zbr Z (Zoi fd) σ H R):Zsb K (Zay Z fd) σ H R:=by
 obtain⟨F,δ,own,ds,δ',s,e,k⟩:=h
 obtain⟨⟨ds1,δ1⟩,e1,e2⟩:=Option.bind_eq_some_iff.mp e
 refine⟨F,δ,own,ds1,δ1,s,e1,fun vs H1 F1 own1 sH sF s1 r1=>?_⟩
 dsimp only at e2
 split at e2
 ·rename_i xs
  cases e2
  cases r1 with
  |cons h t=>
   cases t
   cases h with
   |lst h r=>exact⟨_,_,rfl,Zah s1.le h,k _ H1 F1 own1 sH sF s1 (Zhn h r)⟩
 ·cases e2
end
section
variable{X:Cx}{Z:Ent X.K}{a:Expr}{fa:FE}{pos:Pos}
theorem Zud{elts:List Expr}{k j:Nat}{tp p kp q:Pos}(hm:X.mg "enumerate"=none)(ha:PE X a (Zb Z fa))(hg:Gl X "enumerate":=by rfl)(hs:starEach [a] X.env=[(false,eval a X.env)]:=by rfl)
  (he:eval (.Call (.Name "enumerate" p) [a] [⟨some "start",.Constant (.int 1) j q,kp⟩] pos) X.env=(do callWith pos (←eval (.Name "enumerate" p) X.env) [] (backTo pos (starEach [a] X.env)) (backToKw pos (keywordEach [⟨some "start",.Constant (.int 1) j q,kp⟩] X.env))):=by rfl):
  PI X (.Tuple elts k tp) (.Call (.Name "enumerate" p) [a] [⟨some "start",.Constant (.int 1) j q,kp⟩] pos) (Zbr Z (Zoi (Zh fa Zs))):=(Zqx hg hm (Zak ha Zcg hs) hs he).imp fun _ _ _ h=>Zqy h
end
end DL
namespace DL
open PySem PySem.Spec PyProof.Rows L2
variable{K:PySem.W.Frag}
section
variable{Z:Ent K}
@[simp] noncomputable def Zln:List D→Option SV
 | [.lst xs]=>some (.fz (.int (xs.length:Nat)))
 | [.tup xs]=>some (.fz (.int (xs.length:Nat)))
 | [.str x]=>if x.length≤PySem.sizeLine then some (.fz (.int (x.length:Nat)))else none
 | [.dK ks _]=>some (.fz (.int (ks.length:Nat)))
 |_=>none
theorem Zxr:Zfp Z (fun xs H Q=>((∃p ys,xs=[V.ref p]∧(SqL K H p ys∨SqT K H p ys)∧Q (.int ys.length) H)∨(∃z,xs=[V.str z]∧z.length≤PySem.sizeLine∧Q (.int z.length) H))∨(∃a kvs,xs=[V.ref a]∧HK H a kvs∧Q (.int kvs.length) H)) Zln:=by
 intro F H σ δ own vs ds sv Q s r e k
 unfold Zln at e
 split at e
 ·exact .inl (Ztg F H σ δ own vs _ sv Q s r e k)
 ·exact .inl (Ztg F H σ δ own vs _ sv Q s r e k)
 ·exact .inl (Ztg F H σ δ own vs _ sv Q s r e k)
 ·cases e
  cases r with
  |cons h t=>
   cases t
   obtain⟨a,kvs,ex,ha,ek,ra⟩:=h.dK s.le
   subst ex
   exact .inr ⟨a,kvs,rfl,ha,by rw[←List.length_map (f:=fun x=>x.1) (as:=kvs),ek];exact k.fz s (.int _)⟩
 ·cases e
end
section
variable{X:Cx}{Z:Ent X.K}{a:Expr}{fa:FE}{pos:Pos}
theorem Zoj{p:Pos}(hm:X.mg "len"=none)(ha:PE X a (Zb Z fa))(hg:Gl X "len":=by rfl)(he:starEach [a] X.env=(false,eval a X.env)::starEach [] X.env:=by rfl)(hpl:(backTo pos (starEach [] X.env)).any (·.1)=false:=by rfl):PE X (.Call (.Name "len" p) [a] [] pos) (Zb Z (Zda Zln (Zc fa Zi))):=
 Znd ((Zgw.or Zgx).or Zmw) Zxr hm PySem.boot_len (Zj ha Zag he) hg (by decide) (by decide) he hpl
end
end DL
namespace DL
open PySem PySem.Spec PyProof.Rows L2
variable{K:PySem.W.Frag}
section
variable{Z:Ent K}{H:Hp}{σ:L2.St}{Q:VK}{E:Ends}
noncomputable abbrev UR:=D×List Key×List D
noncomputable abbrev UG:=Addr→List D→List Key→List D→Option UR
noncomputable def spU(K:PySem.W.Frag)(n:Nat)(g:UG):Sp:=fun vs H Q _=>∃F a us ds kvs ep es r,vs=us++[V.ref a]∧Same F H∧Reps K F ds us∧ds.length=n∧Reps K F es (kvs.map (·.2))∧F a=none∧H a=some (.dK kvs ep)∧g a ds (kvs.map (·.1)) es=some r∧
 ∀v H' F' kvs' ep',Same (hole H [(a,.dK kvs ep)]) H'→Same F F'→Same F' H'→(∀(b:Addr) (o:HO),F' b=some o→F b=some o∨hole H [(a,.dK kvs ep)] b=none)→Rep K F' r.1 v→kvs'.map (·.1)=r.2.1→Reps K F' r.2.2 (kvs'.map (·.2))→F' a=none→H' a=some (.dK kvs' ep')→Q v H'
theorem Zue{n:Nat}{g:UG}{vs:List V}{E:XK}(h:spU K n g vs H Q E):vs.length=n+1:=by
 obtain⟨F,a,us,ds,kvs,ep,es,r,rfl,_,r1,hn,_⟩:=h
 rw[List.length_append,←r1.length,hn];rfl
@[simp] noncomputable def runs:List FS→DSt→Option DSt
 | [],δ=>some δ
 |f::r,δ=>match f δ with
  |some (.nx δ1)=>runs r δ1
  |_=>none
noncomputable def Zqz(Z:Ent K):List FS→TS→TS
 | [],t=>t
 |f::r,t=>tSeq (Zy Z f) (Zqz Z r t)
theorem Zok{t:TS}:∀{fs:List FS} {F H:Hp} {σ:L2.St} {δ:DSt} {own:Nat→Zk} {δ':DSt},SR Z F H σ δ own→runs fs δ=some δ'→(∀σ' H' F' own',Same F F'→SR Z F' H' σ' δ' own'→t E σ' H')→Zqz Z fs t E σ H
 | [],F,H,σ,δ,own,δ',s,e,k=>by
  cases e
  exact k σ H F own (Same.refl F) s
 |f::r,F,H,σ,δ,own,δ',s,e,k=>by
  unfold runs at e
  split at e
  ·rename_i δ1 hf
   exact⟨F,δ,own,.nx δ1,s,hf,fun σ1 H1 F1 own1 a1 s1=>Zok s1 e fun σ2 H2 F2 own2 a2 s2=>k σ2 H2 F2 own2 (a1.trans a2) s2⟩
  ·cases e
@[simp] noncomputable def Zol(n:Nat)(a:Addr)(ds:List D)(ks:List Key)(es:List D):DSt:=ds.map (fun d=>some (.fz d))++some (.oQ a ks es)::List.replicate (n- ds.length- 1) none
@[simp] noncomputable def Zxs(a:Addr)(d:D):Option (Option SV)→Option UR
 |some (some (.oQ b ks es))=>if b=a then some (d,ks,es)else none
 |_=>none
@[simp] noncomputable def outU(fs:List FS)(fe:FE)(n:Nat):UG:=fun a ds ks es=>(runs fs (Zol n a ds ks es)).bind fun δ=>(fe δ).bind fun p=>(frz p.1 p.2).bind fun q=>Zxs a q.1 (q.2[ds.length]?)
theorem Zom{α:Type}(xs:List α)(m:Nat)(x y:α):(xs++List.replicate (m+1) y).set xs.length x=xs++x::List.replicate m y:=by
 rw[List.set_append_right _ _ (Nat.le_refl _),Nat.sub_self,List.replicate_succ,List.set_cons_zero]
theorem Zon{N:List Str}{n:Nat}{fs:List FS}{fe:FE}{vs:List V}{E':XK}(hN:n<N.length)(h:spU K n (outU fs fe N.length) vs H Q E'):∃G F,Zqz (ent G F:Ent K) fs (tRet (Zb (ent G F:Ent K) fe)) {nx:=fun _ H'=>Q .non H',rt:=Q} (L2.start N vs) H:=by
 obtain⟨F,a,us,ds,kvs,ep,es,r,rfl,le,r1,hn,r2,fa,ha,e,k⟩:=h
 refine⟨hole H [(a,.dK kvs ep)],F,?_⟩
 have q:=Zfr (N:=N) le r1
 have s0:SR (ent (hole H [(a,.dK kvs ep)]) F:Ent K) F H (L2.start N us) (Zdl N.length ds) fun _=>[]:=
  ⟨q.le,fun b o e=>.inl e,Zub,q.len,q.at',q.nod,fun _ _ h=>(nomatch h),fun _ _ _ _ _ h=>(nomatch h)⟩
 have t:TmpOk (ent (hole H [(a,.dK kvs ep)]) F:Ent K) F H (fun _=>[]) (.oQ a (kvs.map (·.1)) es) (.ref a) [(a,.dK kvs ep)]:=
  ⟨.oQ rfl r2,nd1,fun p hp=>by
   obtain rfl:=List.mem_singleton.mp hp
   exact⟨fa,Zuc (List.mem_map.mpr ⟨_,List.mem_singleton.mpr rfl,rfl⟩),ha⟩,fun _ _ _ _ h=>(nomatch h)⟩
 have hul:us.length=n:=by rw[←r1.length];exact hn
 have hsl:(L2.start N us).length=N.length:=by unfold L2.start;rw[List.length_append,List.length_map,List.length_replicate];omega
 have s1:=s0.store (i:=n) t (by rw[hsl];exact hN)
 have e1:(L2.start N us).set n (some (V.ref a))=L2.start N (us++[V.ref a]):=by
  unfold L2.start
  obtain⟨m,hm⟩:∃m,N.length- us.length=m+1:=⟨N.length- us.length- 1,by omega⟩
  have:=Zom (us.map some) m (some (V.ref a)) none
  rw[List.length_map,hul]at this
  rw[hm,this,List.map_append,List.append_assoc,List.length_append]
  have h2:N.length- (us.length+[V.ref a].length)=m:=by simp;omega
  rw[h2];rfl
 have e2:(Zdl N.length ds).set n (some (SV.oQ a (kvs.map (·.1)) es))=Zol N.length a ds (kvs.map (·.1)) es:=by
  unfold Zdl Zol
  obtain⟨m,hm⟩:∃m,N.length- ds.length=m+1:=⟨N.length- ds.length- 1,by omega⟩
  have:=Zom (ds.map fun d=>some (SV.fz d)) m (some (SV.oQ a (kvs.map (·.1)) es)) none
  rw[List.length_map,hn]at this
  rw[hm,this];rfl
 rw[e1,e2]at s1
 unfold outU at e
 obtain⟨δ1,f1,e⟩:=Option.bind_eq_some_iff.mp e
 obtain⟨⟨rv,δ2⟩,f2,e⟩:=Option.bind_eq_some_iff.mp e
 obtain⟨⟨d,δ3⟩,f3,e⟩:=Option.bind_eq_some_iff.mp e
 refine Zok s1 f1 fun σ2 H2 F2 own2 a2 s2=>?_
 refine⟨F2,δ1,own2,rv,δ2,s2,f2,fun v H3 F3 own3 sH3 sF3 s3 r3=>?_⟩
 obtain⟨F4,sF4,s4,r4⟩:=s3.settleR r3
 obtain⟨F5,own5,sF5,s5,r5⟩:=s4.frzR r4 f3
 dsimp only at e
 generalize ho:δ3[ds.length]? =o at e
 unfold Zxs at e
 split at e
 ·rename_i b ks' es'
  split at e
  ·rename_i hb
   cases e
   subst hb
   obtain⟨v',hv',sh⟩:=s5.at' _ _ ho
   obtain⟨kvs',ep',ev,en,ek,rr⟩:=Zj6 sh
   have mb:(b,HO.dK kvs' ep')∈own5 ds.length:=by rw[en];exact List.mem_cons_self
   obtain⟨x1,x2,x3⟩:=s5.ok _ _ mb
   exact k v H3 F5 kvs' ep' s5.old (a2.trans (sF3.trans (sF4.trans sF5))) s5.le s5.fro r5 ek rr x1 x3
  ·cases e
 ·cases e
noncomputable def Zho(Z:Ent K)(f:FE):TE:=fun σ H Q=>∃F δ own rv δ',SR Z F H σ δ own∧f δ=some (rv,δ')∧
 ∀v H' F' own',Same F F'→SR Z F' H' σ δ' own'→RVS K F' σ rv v→Q v H'
noncomputable def Zhp(Z:Ent K)(i:Nat)(fd:FD):TA:=fun σ H R=>Zay Z fd σ H fun vs H1=>∃x,σ[i]? =some (some x)∧R (vs++[x]) H1
open Classical in
noncomputable def Zen(i n:Nat)(g:UG)(fd:FD):FE:=fun δ=>(fd δ).bind fun p=>if p.1.length=n then match p.2[i]? with
 |some (some (.oK ks es))=>if h:∃r,∀a,g a p.1 ks es=some r then some (.tmp (.fz h.choose.1),p.2.set i (some (.oK h.choose.2.1 h.choose.2.2)))else none
 |_=>none else none
theorem Zhq{i n:Nat}{g:UG}{fd:FD}{δ δ1:DSt}{ds:List D}{ks:List Key}{es:List D}{r:UR}(hd:fd δ=some (ds,δ1))(hn:ds.length=n)(hi:δ1[i]? =some (some (.oK ks es)))(hg:∀a,g a ds ks es=some r):Zen i n g fd δ=some (.tmp (.fz r.1),δ1.set i (some (.oK r.2.1 r.2.2))):=by
 unfold Zen
 rw[hd]
 dsimp only[Option.bind_some]
 rw[if_pos hn,hi]
 have h:∃r,∀a,g a ds ks es=some r:=⟨r,hg⟩
 dsimp only
 rw[dif_pos h]
 have:=h.choose_spec 0
 rw[hg 0]at this
 rw[←Option.some.inj this]
theorem SR.hand{F F' H':Hp}{δ:DSt}{own:Nat→Zk}{i:Nat}{a:Addr}{kvs kvs':List (Key×V)}{ep ep':Nat}{ks ks':List Key}{es es':List D}(s:SR Z F H σ δ own)(hi:δ[i]? =some (some (.oK ks es)))(hv:σ[i]? =some (some (.ref a)))(en:own i=[(a,.dK kvs ep)])
  (sH:Same (hole H [(a,.dK kvs ep)]) H') (sF:Same F F') (le':Same F' H') (fro':∀(b:Addr) (o:HO),F' b=some o→F b=some o∨hole H [(a,.dK kvs ep)] b=none) (ek:kvs'.map (·.1)=ks') (rr:Reps K F' es' (kvs'.map (·.2))) (fa:F' a=none) (ha:H' a=some (.dK kvs' ep')):
  SR Z F' H' σ (δ.set i (some (.oK ks' es'))) (put own i [(a,.dK kvs' ep')]):=by
 have hil:i<δ.length:=(List.getElem?_eq_some_iff.mp hi).1
 have ma:(a,HO.dK kvs ep)∈own i:=by rw[en];exact List.mem_cons_self
 obtain⟨x1,x2,x3⟩:=s.ok i _ ma
 have out:∀b,b≠a→hole H [(a,.dK kvs ep)] b=H b:=fun b hb=>Zqt fun z=>hb (by simpa[adr]using z)
 have zh:∀b,hole H [(a,.dK kvs ep)] b=none→Z.h b=none:=fun b hb=>by
  by_cases z:b=a
  ·subst z;exact x2
  ·rw[out b z]at hb;exact s.old.free hb
 have keep:∀j,j≠i→∀q∈own j,q.1≠a:=fun j hj q hq=>s.sep j i q _ hj hq ma
 refine⟨le',fun b o e=>?_,fun b o e=>?_,by rw[List.length_set];exact s.len,fun j sv e=>?_,fun j=>?_,fun j q hq=>?_,fun j l q r hjl hq hr=>?_⟩
 ·rcases fro' b o e with z|z
  ·exact s.fro b o z
  ·exact .inr (zh b z)
 ·refine sH b o ?_
  rw[out b fun z=>by rw[z,x2]at e;cases e]
  exact s.old b o e
 ·by_cases hj:j=i
  ·subst hj
   rw[List.getElem?_set_self hil]at e
   cases e
   rw[Zn]
   exact⟨_,hv,.oK ek rr⟩
  ·rw[List.getElem?_set_ne (Ne.symm hj)]at e
   obtain⟨v,h1,h2⟩:=s.at' j sv e
   rw[Zv hj]
   exact⟨v,h1,h2.mono sF⟩
 ·by_cases hj:j=i
  ·subst hj;rw[Zn];exact nd1
  ·rw[Zv hj];exact s.nod j
 ·by_cases hj:j=i
  ·subst hj
   rw[Zn]at hq
   obtain rfl:=List.mem_singleton.mp hq
   exact⟨fa,x2,ha⟩
  ·rw[Zv hj]at hq
   obtain⟨y1,y2,y3⟩:=s.ok j q hq
   have hh:hole H [(a,.dK kvs ep)] q.1=some q.2:=by rw[out _ (keep j hj q hq)];exact y3
   refine⟨?_,y2,sH _ _ hh⟩
   cases z:F' q.1 with
   |none=>rfl
   |some u=>
    rcases fro' _ u z with y|y
    ·rw[y1]at y;cases y
    ·rw[hh]at y;cases y
 ·by_cases hj:j=i
  ·subst hj
   rw[Zn]at hq
   rw[Zv (Ne.symm hjl)]at hr
   obtain rfl:=List.mem_singleton.mp hq
   exact Ne.symm (keep l (Ne.symm hjl) r hr)
  ·by_cases hl:l=i
   ·subst hl
    rw[Zn]at hr
    rw[Zv hj]at hq
    obtain rfl:=List.mem_singleton.mp hr
    exact keep j hj q hq
   ·rw[Zv hj]at hq
    rw[Zv hl]at hr
    exact s.sep j l q r hjl hq hr
theorem Zuf{i n:Nat}{g:UG}{fd:FD}{E':XK}(h:Zho Z (Zen i n g fd) σ H Q):Zla (spU K n g) [] E' (Zhp Z i fd) σ H Q:=by
 obtain⟨F,δ,own,rv,δ',s,e,k⟩:=h
 unfold Zen at e
 obtain⟨⟨ds,δ1⟩,e1,e⟩:=Option.bind_eq_some_iff.mp e
 dsimp only at e
 split at e
 ·rename_i hn
  split at e
  ·rename_i ks es hi
   split at e
   ·rename_i hg
    cases e
    refine⟨F,δ,own,ds,δ1,s,e1,fun vs H1 F1 own1 sH sF s1 r1=>?_⟩
    obtain⟨x,hx,sh⟩:=s1.at' i _ hi
    refine⟨x,hx,?_⟩
    obtain⟨a,kvs,ep,rfl,en,rfl,rr⟩:=Zj5 sh
    have ma:(a,HO.dK kvs ep)∈own1 i:=by rw[en];exact List.mem_cons_self
    obtain⟨x1,x2,x3⟩:=s1.ok i _ ma
    rw[List.append_nil]
    refine⟨F1,a,vs,ds,kvs,ep,es,_,rfl,s1.le,r1,hn,rr,x1,x3,hg.choose_spec a,fun w H' F' kvs' ep' sH' sF' le' fro' rw' ek' rr' fa' ha'=>?_⟩
    exact k w H' F' _ (sF.trans sF') (s1.hand hi hx en sH' sF' le' fro' ek' rr' fa' ha') rw'
   ·cases e
  ·cases e
 ·cases e
@[simp] noncomputable def Zug(g:D→D→Option SV)(fa fb:FE):FE:=fun δ=>(fa δ).bind fun p=>(frz p.1 p.2).bind fun q=>(fb q.2).bind fun r=>(rdv r.1 r.2).bind fun d2=>(g q.1 d2).bind fun sv=>if sv.scal then some (.tmp sv,r.2)else none
theorem Zkk{F:Hp}{sv:SV}{v:V}{ns:Zk}(h:sv.scal=true)(sh:Shape K F sv v ns)(G:Hp):Rep K G sv.toD v:=by
 obtain⟨_,sh'⟩:=Zjv (F':=G) h sh
 cases sh' with
 |fz r=>exact r
theorem Zxt{r:R2}{g:D→D→Option SV}{fa fb:FE}(hg:Z8 Z r g)(h:Zho Z (Zug g fa fb) σ H Q):tOp r (Zb Z fa) (Zho Z fb) σ H Q:=by
 obtain⟨F,δ,own,rv,δ',s,e,k⟩:=h
 obtain⟨⟨rv1,δ1⟩,e1,e⟩:=Option.bind_eq_some_iff.mp e
 obtain⟨⟨d1,δ2⟩,e2,e⟩:=Option.bind_eq_some_iff.mp e
 obtain⟨⟨rv2,δ3⟩,e3,e⟩:=Option.bind_eq_some_iff.mp e
 obtain⟨d2,e4,e⟩:=Option.bind_eq_some_iff.mp e
 obtain⟨sv,e5,e⟩:=Option.bind_eq_some_iff.mp e
 dsimp only at e
 split at e
 ·rename_i hs
  cases e
  refine⟨F,δ,own,rv1,δ1,s,e1,fun v H1 F1 own1 sH1 sF1 s1 r1=>?_⟩
  obtain⟨F2,sF2,s2,r2⟩:=s1.settleR r1
  obtain⟨F3,own3,sF3,s3,r3⟩:=s2.frzR r2 e2
  refine⟨F3,δ2,own3,rv2,_,s3,e3,fun u H4 F4 own4 sF4 s4 r4=>?_⟩
  refine hg F4 H4 σ _ own4 v u d1 d2 sv Q s4 (RepN.of (r3.mono sF4)) (s4.rd r4 e4) e5 fun z H5 F5 ns sH5 sF5 s5 t5=>?_
  exact k z H5 F5 own4 (sF1.trans (sF2.trans (sF3.trans (sF4.trans sF5)))) s5 (Zkk hs t5.sh F5)
 ·cases e
@[simp] noncomputable def Zq0(i:Nat)(fe:FE):FS:=fun δ=>match δ[i]? with
 |some (some (.ol _))=>(fe δ).bind fun p=>(frz p.1 p.2).bind fun q=>match q.2[i]? with
  |some (some (.ol xs))=>if xs.length<PySem.sizeLine then some (.nx (q.2.set i (some (.ol (xs++[q.1])))))else none
  |_=>none
 |_=>none
theorem Zxu{i:Nat}{fe:FE}(h:Zy Z (Zq0 i fe) E σ H):Zpm (tBM K "list" Zc5 (tVar i) (Zk9 (Zho Z fe) tNil)) E σ H:=by
 obtain⟨F,δ,own,fl,s,e,k⟩:=h
 unfold Zq0 at e
 split at e
 ·rename_i xs0 hx0
  obtain⟨⟨rv,δ1⟩,e1,e2⟩:=Option.bind_eq_some_iff.mp e
  obtain⟨⟨d,δ2⟩,e3,e4⟩:=Option.bind_eq_some_iff.mp e2
  obtain⟨v,hv,sh⟩:=s.at' i _ hx0
  obtain⟨a,vs0,ev,en,r0⟩:=Za0 sh
  refine⟨v,hv,?_,F,δ,own,rv,δ1,s,e1,fun y H1 F1 own1 sF s1 r1=>?_⟩
  ·subst ev
   exact .inl ⟨rfl,vs0,.inl (.inl (s.ok i (a,.lst vs0) (by rw[en];exact List.mem_cons_self)).2.2)⟩
  obtain⟨F3,own3,sF3,s3,r3⟩:=s1.frzR r1 e3
  dsimp only at e4
  split at e4
  ·rename_i xs hx
   by_cases hz:xs.length<PySem.sizeLine
   ·rw[if_pos hz]at e4
    cases e4
    obtain⟨v',hv',sh'⟩:=s3.at' i _ hx
    rw[hv]at hv';cases hv'
    obtain⟨b,vs,eb,en',r'⟩:=Za0 sh'
    have mb:(b,HO.lst vs)∈own3 i:=by rw[en'];exact List.mem_cons_self
    subst eb
    refine⟨b,vs,y,rfl,rfl,(s3.ok i _ mb).2.2,by rw[←r'.length];exact hz,?_⟩
    exact k σ _ F3 _ (sF.trans sF3) (s3.change (sv':=.ol (xs++[d])) (o':=.lst (vs++[y])) (ns':=[(b,.lst (vs++[y]))]) hx hv mb (.ol (r'.snoc r3)) (fun p hp=>.inl (List.mem_singleton.mp hp)) nd1)
   ·rw[if_neg hz]at e4;cases e4
  ·cases e4
 ·cases e
end
section
variable{X:Cx}{Z:Ent X.K}{a b c:Expr}{fa fb fc:FE}{pos:Pos}
theorem Zxv(i:Nat)(ha:PE X a (tVar i))(he:starEach [a] X.env=(false,eval a X.env)::starEach [] X.env:=by rfl):PA X [a] (Zhp Z i Zs):=by
 intro p pins s σ H R I h
 refine Zba ha Zdy he p pins s σ H R I ?_
 obtain⟨F,δ,own,ds,δ',s0,e,k⟩:=h
 cases e
 obtain⟨x,hx,q⟩:=k [] H F own (Same.refl H) (Same.refl F) s0 .nil
 exact⟨x,hx,q⟩
theorem Zoo{es:List Expr}{i:Nat}{fd:FD}(ha:PE X a (Zb Z fa))(hr:PA X es (Zhp Z i fd))(he:starEach (a::es) X.env=(false,eval a X.env)::starEach es X.env:=by rfl):PA X (a::es) (Zhp Z i (Zh fa fd)):=by
 intro p pins s σ H R I h
 refine Zba ha hr he p pins s σ H R I ?_
 exact Ze7 h
theorem Zxw(i:Nat){k n:Nat}{f:Addr}{fd:FuncData}{ps:List Str}{g:UG}{x:Str}{p:Pos}{es:List Expr}{fr:FD}(F:FnOk X.prog X.w X.K X.mg X.base CX0 k f fd ps (spU X.K n g))(hr:Room k X.A)(hm:X.mg x=some (.ref f))(hk:PySem.W.keepIn X.K (.ref f)=true)(hb:Zax X.K fd ps [])
  (ha:PA X (a::es) (Zhp Z i fr)) (hg:Gl X x:=by rfl) (hdb:(x==("__debug__":Str))=false:=by decide) (he:starEach (a::es) X.env=(false,eval a X.env)::starEach es X.env:=by rfl) (hpl:(backTo pos (starEach es X.env)).any (·.1)=false:=by rfl):
  PE X (.Call (.Name x p) (a::es) [] pos) (Zho Z (Zen i n g fr)):=(Zig F hr hg hm hk hb .nil Zs2 ha hdb he hpl).imp fun _ _ _ h=>Zuf h
theorem Z1d(ha:PE X a (Zb Z fa))(hb:PE X b (Zho Z fb)):PE X (.BinOp a .Add b pos) (Zho Z (Zug addD fa fb)):=(Zvn Zm7 ha hb).imp fun _ _ _ h=>Zxt Zwu h
theorem Zxx(i:Nat){x:Str}{px apos cpos:Pos}(hb:PE X b (Zho Z fb))(hN:X.N[i]? =some x:=by rfl)(hv:Vis X.env.scope x:=by first|exact Or.inl rfl|exact Or.inr (Or.inl rfl)|exact Or.inr (Or.inr rfl))(hd:(x==("__debug__":Str))=false:=by decide)
  (hcd:(x==("__classdict__":Str))=false:=by decide) (hbase:attributeBase (.Name x px) "append" X.env (eval (.Name x px) X.env)=eval (.Name x px) X.env:=by rfl)
  (hfew:((backTo cpos (starEach [b] X.env)).all (fun x=>!x.1)&&(backToKw cpos (keywordEach [] X.env)).all (fun x=>x.1.isSome)&&decide ([b].length+([]:List Keyword).length+(if([]:List Keyword).isEmpty then 0 else 1)<30))=true:=by rfl)
  (hline:(apos.endLine==cpos.line)=true:=by rfl) (hs:starEach [b] X.env=(false,eval b X.env)::starEach [] X.env:=by rfl) (hpl:(backTo cpos (starEach [] X.env)).any (·.1)=false:=by rfl) (hsw:swapsWith (.Call (.Attribute (.Name x px) "append" apos) [b] [] cpos) none pos.line X.env=pure false:=by rfl):
  PS X (.Expr (.Call (.Attribute (.Name x px) "append" apos) [b] [] cpos) pos) (Zy Z (Zq0 i fb)):=
 (Zif (Zgy PySem.F.plainAttrs_list PySem.F.slot_list_append PySem.F.type_list_append Zd0 (Ze5 (i:=i) hN hv hd hcd) (Zba hb Zdy hs) hbase hfew hline hs hpl) hsw).imp fun _ _ _ h=>Zxu h
end
end DL
namespace DL
open PySem PySem.Spec PyProof.Rows L2
variable{K:PySem.W.Frag}
noncomputable def SkD(ks:List Key)(m:Nat)(d:D):Prop:=∃vs,d= .dK ks vs∧ks.length=vs.length∧∀v∈vs,∃(x:Str) (ks2:List Key) (ys:List Str),v= .tup [.str x,.dK ks2 (ys.map D.str)]∧ys.length≤m
noncomputable def Skel(W:Addr→Prop)(H:Hp)(ks:List Key)(m:Nat)(v:V):Prop:=∃a kvs ep,v= .ref a∧W a∧H a=some (.dK kvs ep)∧kvs.map (·.1)=ks∧∀p∈kvs,∃t x b kvs2 ep2,p.2= .ref t∧W t∧H t=some (.tup [.str x,.ref b])∧W b∧H b=some (.dK kvs2 ep2)∧kvs2.length≤m∧∀q∈kvs2,∃y,q.2= .str y
theorem Skel.mono{W:Addr→Prop}{H H':Hp}{ks:List Key}{m:Nat}{v:V}(s:Same H H')(h:Skel W H ks m v):Skel W H' ks m v:=by
 obtain⟨a,kvs,ep,e1,w,e2,e3,h⟩:=h
 refine⟨a,kvs,ep,e1,w,s _ _ e2,e3,fun p hp=>?_⟩
 obtain⟨t,x,b,kvs2,ep2,q1,q2,q3,q4,q5,q6⟩:=h p hp
 exact⟨t,x,b,kvs2,ep2,q1,q2,s _ _ q3,q4,s _ _ q5,q6⟩
theorem Zhr{F:Hp}:∀{ys:List Str} {vs:List V},Reps K F (ys.map D.str) vs→vs=ys.map V.str
 | [],_,h=>by cases h;rfl
 |y::ys,_,h=>by
  cases h with
  |cons h t=>cases h;rw[Zhr t];rfl
theorem Zff{F:Hp}:∀(ys:List Str),Reps K F (ys.map D.str) (ys.map V.str)
 | []=>.nil
 |y::ys=>.cons (.str y) (Zff ys)
theorem Reps.memV{F:Hp}:∀{ds:List D} {vs:List V} {v:V},Reps K F ds vs→v∈vs→∃d∈ds,Rep K F d v
 |_,_,_,.nil,h=>nomatch h
 |_,_,_,.cons r t,h=>by
  rcases List.mem_cons.mp h with e|e
  ·subst e;exact⟨_,List.mem_cons_self,r⟩
  ·obtain⟨d,hd,q⟩:=t.memV e;exact⟨d,List.mem_cons_of_mem _ hd,q⟩
theorem Zuh{F H:Hp}{ks:List Key}{m:Nat}{d:D}{v:V}(le:Same F H)(h:SkD ks m d)(r:Rep K F d v):Skel (fun b=>∃o,F b=some o) H ks m v:=by
 obtain⟨vs,rfl,_,hv⟩:=h
 cases r with
 | @dK a _ _ kvs ep ha e r=>
  refine⟨a,kvs,ep,rfl,⟨_,ha⟩,le _ _ ha,e,fun p hp=>?_⟩
  obtain⟨d,hd,rd⟩:=r.memV (List.mem_map.mpr ⟨p,hp,rfl⟩)
  obtain⟨x,ks2,ys,rfl,hl⟩:=hv d hd
  generalize hq:p.2=q at rd
  cases rd with
  | @tup t _ us ht ru=>
   cases ru with
   |cons r1 ru=>
    cases ru with
    |cons r2 ru=>
     cases ru
     cases r1
     cases r2 with
     | @dK b _ _ kvs2 ep2 hb e2 r3=>
      have z:=Zhr r3
      refine⟨t,x,b,kvs2,ep2,rfl,⟨_,ht⟩,le _ _ ht,⟨_,hb⟩,le _ _ hb,?_,fun q hq=>?_⟩
      ·have:=congrArg List.length z
       rw[List.length_map,List.length_map]at this
       omega
      ·have:q.2∈ys.map V.str:=by rw[←z];exact List.mem_map.mpr ⟨q,hq,rfl⟩
       obtain⟨y,_,e⟩:=List.mem_map.mp this
       exact⟨y,e.symm⟩
theorem Skel.rep{W:Addr→Prop}{H G:Hp}{ks:List Key}{m:Nat}{v:V}(h:Skel W H ks m v)(hG:∀b o,W b→H b=some o→G b=some o):∃d,SkD ks m d∧Rep K G d v:=by
 obtain⟨a,kvs,ep,rfl,w,e2,e3,h⟩:=h
 have go:∀l:List (Key×V),(∀p∈l,p∈kvs)→∃vs,Reps K G vs (l.map (·.2))∧∀v∈vs,∃(x:Str) (ks2:List Key) (ys:List Str),v=D.tup [.str x,.dK ks2 (ys.map D.str)]∧ys.length≤m:=by
  intro l
  induction l with
  |nil=>exact fun _=>⟨[],.nil,fun _ h=>nomatch h⟩
  |cons p l ih=>
   intro hl
   obtain⟨vs,r,hv⟩:=ih fun q hq=>hl q (List.mem_cons_of_mem _ hq)
   obtain⟨t,x,b,kvs2,ep2,q1,q2,q3,q4,q5,q6,q7⟩:=h p (hl p List.mem_cons_self)
   have hy:∃ys:List Str,kvs2.map (·.2)=ys.map V.str∧ys.length=kvs2.length:=by
    clear q5 q6
    induction kvs2 with
    |nil=>exact⟨[],rfl,rfl⟩
    |cons q r ih2=>
     obtain⟨y,e⟩:=q7 q List.mem_cons_self
     obtain⟨ys,e1,e2⟩:=ih2 fun z hz=>q7 z (List.mem_cons_of_mem _ hz)
     exact⟨y::ys,by rw[List.map_cons,e,e1];rfl,by rw[List.length_cons,e2];rfl⟩
   obtain⟨ys,e1,e2⟩:=hy
   refine⟨.tup [.str x,.dK (kvs2.map (·.1)) (ys.map D.str)]::vs,?_,fun v hv'=>?_⟩
   ·rw[List.map_cons,q1]
    refine .cons (.tup (hG _ _ q2 q3) (.cons (.str x) (.cons (.dK (hG _ _ q4 q5) rfl ?_) .nil))) r
    rw[e1]
    exact Zff ys
   ·rcases List.mem_cons.mp hv' with z|z
    ·exact⟨x,_,ys,z,by omega⟩
    ·exact hv v z
 obtain⟨vs,r,hv⟩:=go kvs fun _ h=>h
 exact⟨.dK ks vs,⟨vs,rfl,by rw[←e3,List.length_map,r.length,List.length_map],hv⟩,.dK (hG _ _ w e2) e3 r⟩
theorem Zq1{kvs:List (Key×V)}{k:Key}(h:k∈kvs.map (·.1)):∃p∈kvs,valV kvs k=some p.2:=by
 induction kvs with
 |nil=>exact nomatch h
 |cons p r ih=>
  by_cases e:p.1=k
  ·exact⟨p,List.mem_cons_self,Zcx e⟩
  ·obtain⟨q,hq,z⟩:=ih (by
    rw[List.map_cons]at h
    rcases List.mem_cons.mp h with y|y
    ·exact absurd y.symm e
    ·exact y)
   exact⟨q,List.mem_cons_of_mem _ hq,by rw[Zcy e];exact z⟩
theorem Zq2{kvs:List (Key×V)}{k:Key}{v:V}:(putK kvs k v).length≤kvs.length+1:=by
 unfold putK
 split
 ·rw[List.length_map];omega
 ·rw[List.length_append];simp
theorem Zq3{kvs:List (Key×V)}{k:Key}{x:Str}(h:∀q∈kvs,∃y,q.2=V.str y):∀q∈putK kvs k (.str x),∃y,q.2=V.str y:=by
 unfold putK
 split
 ·intro q hq
  obtain⟨r,hr,e⟩:=List.mem_map.mp hq
  split at e
  ·subst e;exact⟨x,rfl⟩
  ·subst e;exact h _ hr
 ·intro q hq
  rcases List.mem_append.mp hq with z|z
  ·exact h q z
  ·obtain rfl:=List.mem_singleton.mp z;exact⟨x,rfl⟩
theorem Skel.way{W:Addr→Prop}{H:Hp}{ks:List Key}{m:Nat}{v:V}{k:Key}(h:Skel W H ks m v)(hk:k∈ks):∃a kvs ep t x b kvs2 ep2,v= .ref a∧H a=some (.dK kvs ep)∧valV kvs k=some (.ref t)∧H t=some (.tup [.str x,.ref b])∧W b∧H b=some (.dK kvs2 ep2)∧kvs2.length≤m∧
  ∀(c:Key) (y:Str) ep',Skel W (upd H b (.dK (putK kvs2 c (.str y)) ep')) ks (m+1) v:=by
 obtain⟨a,kvs,ep,rfl,w,e2,rfl,h⟩:=h
 obtain⟨p,hp,hv⟩:=Zq1 hk
 obtain⟨t,x,b,kvs2,ep2,q1,q2,q3,q4,q5,q6,q7⟩:=h p hp
 rw[q1]at hv
 refine⟨a,kvs,ep,t,x,b,kvs2,ep2,rfl,e2,hv,q3,q4,q5,q6,fun c y ep'=>?_⟩
 have hab:a≠b:=fun z=>by
  rw[z,q5]at e2
  cases e2
  obtain⟨y',e⟩:=q7 p hp
  rw[q1]at e;cases e
 refine⟨a,kvs,ep,rfl,w,by rw[Zo hab];exact e2,rfl,fun p' hp'=>?_⟩
 obtain⟨t',x',b',kvs2',ep2',z1,z2,z3,z4,z5,z6,z7⟩:=h p' hp'
 have htb:t'≠b:=fun z=>by rw[z,q5]at z3;cases z3
 by_cases hb:b'=b
 ·subst hb
  rw[q5]at z5
  cases z5
  exact⟨t',x',b',_,ep',z1,z2,by rw[Zo htb];exact z3,z4,Z3,by have:=Zq2 (kvs:=kvs2) (k:=c) (v:=V.str y);omega,Zq3 q7⟩
 ·exact⟨t',x',b',kvs2',ep2',z1,z2,by rw[Zo htb];exact z3,z4,by rw[Zo hb];exact z5,by omega,z7⟩
noncomputable def Zcm(Z:Ent K)(F:Hp)(own:Nat→Zk)(W:Addr→Prop):Prop:=∀b,W b→F b=none∧Z.h b=none∧∀i p,p∈own i→p.1≠b
section
variable{Z:Ent K}{F H:Hp}{σ:L2.St}{δ:DSt}{own:Nat→Zk}{W:Addr→Prop}
theorem SR.updW{b:Addr}{o:HO}(s:SR Z F H σ δ own)(ap:Zcm Z F own W)(hb:W b):SR Z F (upd H b o) σ δ own:=by
 obtain⟨f0,z0,o0⟩:=ap b hb
 refine⟨fun c u e=>?_,s.fro,fun c u e=>?_,s.len,s.at',s.nod,fun i p hp=>?_,s.sep⟩
 ·rw[Zo fun z=>by rw[z,f0]at e;cases e];exact s.le c u e
 ·rw[Zo fun z=>by rw[z,z0]at e;cases e];exact s.old c u e
 ·obtain⟨x,y,w⟩:=s.ok i p hp
  exact⟨x,y,by rw[Zo (o0 i p hp)];exact w⟩
open Classical in
noncomputable def wH(W:Addr→Prop)(H F:Hp):Hp:=fun b=>if W b then H b else F b
theorem Zui(le:Same F H):Same F (wH W H F):=fun b o e=>by
 unfold wH
 split
 ·exact le b o e
 ·exact e
theorem Zxy(le:Same F H):Same (wH W H F) H:=fun b o e=>by
 unfold wH at e
 split at e
 ·exact e
 ·exact le b o e
theorem Zuj{b:Addr}(h:W b):wH W H F b=H b:=if_pos h
theorem Zhs{b:Addr}(h:¬W b):wH W H F b=F b:=if_neg h
theorem SR.seeW(s:SR Z F H σ δ own)(ap:Zcm Z F own W):SR Z (wH W H F) H σ δ own:=by
 refine⟨Zxy s.le,fun b o e=>?_,s.old,s.len,fun i sv e=>?_,s.nod,fun i p hp=>?_,s.sep⟩
 ·by_cases hb:W b
  ·exact .inr (ap b hb).2.1
  ·rw[Zhs hb]at e;exact s.fro b o e
 ·obtain⟨v,h1,h2⟩:=s.at' i sv e
  exact⟨v,h1,h2.mono (Zui s.le)⟩
 ·obtain⟨x,y,w⟩:=s.ok i p hp
  refine⟨?_,y,w⟩
  rw[Zhs fun z=>(ap _ z).2.2 i p hp rfl]
  exact x
theorem SR.blank(i:Nat)(o:Option V)(s:SR Z F H σ δ own):SR Z F H (σ.set i o) (δ.set i none) (put own i []):=by
 have d:=s.drop i
 refine⟨d.le,d.fro,d.old,by rw[List.length_set];exact d.len,fun j sv e=>?_,d.nod,d.ok,d.sep⟩
 by_cases hj:j=i
 ·subst hj
  rw[List.getElem?_set,if_pos rfl]at e
  split at e<;> cases e
 ·rw[List.getElem?_set_ne (Ne.symm hj)]
  exact d.at' j sv e
theorem Zcm.drop{i:Nat}(ap:Zcm Z F own W):Zcm Z F (put own i []) W:=fun b hb=>by
 obtain⟨x,y,z⟩:=ap b hb
 refine⟨x,y,fun j p hp=>?_⟩
 by_cases hj:j=i
 ·subst hj;rw[Zn]at hp;exact nomatch hp
 ·rw[Zv hj]at hp;exact z j p hp
noncomputable def entW(Z:Ent K)(W:Addr→Prop)(H F:Hp):Ent K:=⟨wH W H Z.h,F,Z.x⟩
theorem SR.toW(s:SR Z F H σ δ own)(ap:Zcm Z F own W):SR (entW Z W H F) F H σ δ own:=by
 refine⟨s.le,fun b o e=>.inl e,Zxy s.old,s.len,s.at',s.nod,fun i p hp=>?_,s.sep⟩
 obtain⟨x,y,w⟩:=s.ok i p hp
 refine⟨x,?_,w⟩
 show wH W H Z.h p.1=none
 rw[Zhs fun z=>(ap _ z).2.2 i p hp rfl]
 exact y
theorem SR.ofW{F' H':Hp}{δ':DSt}{own':Nat→Zk}(s:SR Z F H σ δ own)(ap:Zcm Z F own W)(live:∀b,W b→∃o,H b=some o)(t:SR (entW Z W H F) F' H' σ δ' own'):SR Z F' H' σ δ' own'∧Zcm Z F' own' W:=by
 have key:∀b,wH W H Z.h b=none→¬W b∧Z.h b=none:=fun b e=>by
  by_cases hb:W b
  ·obtain⟨o,ho⟩:=live b hb
   rw[Zuj hb,ho]at e;cases e
  ·rw[Zhs hb]at e;exact⟨hb,e⟩
 refine⟨⟨t.le,fun b o e=>?_,fun b o e=>?_,t.len,t.at',t.nod,fun i p hp=>?_,t.sep⟩,fun b hb=>⟨?_,(ap b hb).2.1,fun i p hp z=>?_⟩⟩
 ·rcases t.fro b o e with z|z
  ·exact s.fro b o z
  ·exact .inr (key b z).2
 ·refine t.old b o ?_
  show wH W H Z.h b=some o
  rw[Zhs fun z=>by rw[(ap b z).2.1]at e;cases e]
  exact e
 ·obtain⟨x,y,w⟩:=t.ok i p hp
  exact⟨x,(key _ y).2,w⟩
 ·cases z:F' b with
  |none=>rfl
  |some o=>
   rcases t.fro b o z with y|y
   ·have y':F b=some o:=y
    rw[(ap b hb).1]at y';cases y'
   ·exact absurd hb (key b y).1
 ·obtain⟨x,y,w⟩:=t.ok i p hp
  exact(key _ y).1 (by rw[z];exact hb)
theorem SR.look{i:Nat}{d:D}{v:V}(s:SR Z F H σ δ own)(ap:Zcm Z F own W)(hv:σ[i]? =some (some v))(r:Rep K (wH W H F) d v):SR Z (wH W H F) H σ (δ.set i (some (.fz d))) (put own i []):=by
 have t:=(s.drop i).seeW (W:=W) ap.drop
 have hi:i<σ.length:=(List.getElem?_eq_some_iff.mp hv).1
 have q:=t.store (i:=i) (TmpOk.fz r) hi
 have e1:σ.set i (some v)=σ:=by
  apply List.ext_getElem?
  intro j
  by_cases hj:i=j
  ·subst hj;rw[List.getElem?_set_self hi,hv]
  ·rw[List.getElem?_set_ne hj]
 rw[e1,List.set_set]at q
 have e2:put (put own i []) i []=put own i []:=by
  funext j
  unfold put
  split<;> rfl
 rw[e2]at q
 exact q
end
section
variable{Z:Ent K}{H:Hp}{σ:L2.St}{Q:VK}{E:Ends}
noncomputable def Zxz(i j n:Nat)(ds:List D)(δ1:DSt)(sv:SV)(T1 T2:FT)(is:List D)(δ3:DSt):Prop:=
 ds.length=n∧(∀d∈ds,SV.scal (.fz d)=true)∧i≠j∧i<δ1.length∧j<δ1.length∧∃(ks:List Key) (m:Nat) (ks':List Key),SkD ks m sv.toD∧(∃δ2,T1 (δ1.set i (some (.fz sv.toD)))=some (false,δ2))∧is=ks'.map keyD∧(∀k∈ks',k∈ks)∧m+ks'.length<PySem.sizeLine∧
  ∀k∈ks',∀m' d,SkD ks m' d→∃δ4,T2 ((δ3.set i (some (.fz d))).set j (some (.fz (keyD k))))=some (false,δ4)
open Classical in
noncomputable def Zi6(i j n:Nat)(g:List D→Option SV)(fd:FD)(T1:FT)(fi:FE)(T2:FT):FS:=fun δ=>(fd δ).bind fun p=>(g p.1).bind fun sv=>(dicI fi (p.2.set i none)).bind fun q=>
 if Zxz i j n p.1 p.2 sv T1 T2 q.1 q.2 then some (.nx ((q.2.set i none).set j none))else none
theorem Zq4{i j n:Nat}{g:List D→Option SV}{fd:FD}{T1 T2:FT}{fi:FE}{δ δ1 δ3:DSt}{ds is:List D}{sv:SV}(h1:fd δ=some (ds,δ1))(h2:g ds=some sv)(h3:dicI fi (δ1.set i none)=some (is,δ3))(h:Zxz i j n ds δ1 sv T1 T2 is δ3):
  Zi6 i j n g fd T1 fi T2 δ=some (.nx ((δ3.set i none).set j none)):=by
 unfold Zi6
 rw[h1]
 dsimp only[Option.bind_some]
 rw[h2]
 dsimp only[Option.bind_some]
 rw[h3]
 dsimp only[Option.bind_some]
 rw[if_pos h]
theorem Zht{F:Hp}(G:Hp):∀{ds:List D} {vs:List V},Reps K F ds vs→(∀d∈ds,SV.scal (.fz d)=true)→Reps K G ds vs
 |_,_,.nil,_=>.nil
 |_,_,.cons r t,h=>.cons (Zkk (h _ List.mem_cons_self) (.fz r) G) (Zht G t fun d hd=>h d (List.mem_cons_of_mem _ hd))
noncomputable abbrev tWay(i j:Nat)(K:PySem.W.Frag):TE:=tOp (rIx K) (Zv7 (tVar i) (tVar j)) (tC (.int 1))
noncomputable def allI(K:PySem.W.Frag)(fi:FE):TI:=fun σ H R=>∃Z':Ent K,Zbr Z' (dicI fi) σ H R
theorem Zx0 {i j n : Nat} {g : List D → Option SV} {fd : FD} {T1 T2 : FT} {fi : FE} {tb1 tb2 : TS} {c c' : Str} {E' : XK} (h : Zy Z (Zi6 i j n g fd T1 fi T2) E σ H) :
    tSeq (tAsg (Zla (spOf K n g) [] E' (Zay Z fd)) (Zdx i)) (tSeq (tIfS (Zaf Z T1) tb1 Zid) (tFor (allI K fi) (Zdx j) (tSeq (tIfS (Zaf Z T2) tb2 Zid) (Zmr (tWay i j K) (tC (.str c)) (tC (.str c')))))) E σ H := by
  obtain ⟨F, δ, own, fl, s, e, k⟩ := h
  unfold Zi6 at e
  obtain ⟨⟨ds, δ1⟩, e1, e⟩ := Option.bind_eq_some_iff.mp e
  obtain ⟨sv, e2, e⟩ := Option.bind_eq_some_iff.mp e
  obtain ⟨⟨is, δ3⟩, e3, e⟩ := Option.bind_eq_some_iff.mp e
  dsimp only at e
  split at e
  · rename_i hC
    cases e
    obtain ⟨hn, hsc, hij, hi1, hj1, ks, m, ks', sk, ⟨δ2, h1⟩, rfl, hsub, hz, h2⟩ := hC
    refine ⟨F, δ, own, ds, δ1, s, e1, fun vs H1 F1 own1 sH sF s1 r1 => ?_⟩
    show spOf K n g (vs ++ []) H1 _ E'
    rw [List.append_nil]
    refine ⟨fun _ => none, ds, sv, (fun _ _ e => nomatch e), Zht _ r1 hsc, hn, e2, fun v H2 F2 ns sH2 _ le2 fro2 sh nd ok => ?_⟩
    -- the nodes of what was told: all of them new
    have hnF : ∀ p ∈ ns, F2 p.1 = none := fun p hp => (ok p hp).1
    have rp := sh.rep nd hnF
    have leG : Same (addL F2 ns) H2 := Zip nd le2 fun p hp => (ok p hp).2.2
    have new : ∀ b o, addL F2 ns b = some o → H1 b = none := fun b o e => by
      by_cases hb : b ∈ adr ns
      · obtain ⟨p, hp, ep⟩ := List.mem_map.mp hb
        subst ep
        exact (ok p hp).2.1
      · rw [Zbo hb] at e
        rcases fro2 b o e with z | z
        · cases z
        · exact z
    have s2 : SR Z F1 H2 σ δ1 own1 := s1.grow sH2
    generalize hW : (fun b => ∃ o, addL F2 ns b = some o) = W
    have skel : Skel W H2 ks m v := by rw [← hW]; exact Zuh leG sk rp
    have live : ∀ b, W b → ∃ o, H2 b = some o := fun b hb => by
      rw [← hW] at hb
      obtain ⟨o, ho⟩ := hb
      exact ⟨o, leG _ _ ho⟩
    have ap : Zcm Z F1 own1 W := fun b hb => by
      rw [← hW] at hb
      obtain ⟨o, ho⟩ := hb
      have hb0 := new b o ho
      refine ⟨s1.le.free hb0, s1.old.free hb0, fun q p hp z => ?_⟩
      have := (s1.ok q p hp).2.2
      rw [z, hb0] at this; cases this
    have rpW : Rep K (wH W H2 F1) sv.toD v := rp.mono fun b o e => by
      rw [Zuj (by rw [← hW]; exact ⟨o, e⟩)]
      exact leG _ _ e
    have s3 := s2.blank i (some v)
    have ap3 : Zcm Z F1 (put own1 i []) W := ap.drop
    have hil : i < σ.length := by rw [s1.len]; exact hi1
    have hjl : j < σ.length := by rw [s1.len]; exact hj1
    have hvi : (σ.set i (some v))[i]? = some (some v) := List.getElem?_set_self hil
    have s3' := s3.look ap3 hvi rpW
    rw [List.set_set] at s3'
    refine ⟨_, _, _, false, δ2, s3', h1, fun H3 F3 own3 sH3 sF3 _ => ?_⟩
    show tFor (allI K fi) (Zdx j) _ E (σ.set i (some v)) H3
    have s4 := s3.grow sH3
    have live4 : ∀ b, W b → ∃ o, H3 b = some o := fun b hb => let ⟨o, ho⟩ := live b hb; ⟨o, sH3 _ _ ho⟩
    refine ⟨entW Z W H3 F1, F1, δ1.set i none, _, ks'.map keyD, δ3, s4.toW ap3, e3, fun J H5 F5 own5 sH5 sF5 s5 yl => ?_⟩
    obtain ⟨s6, ap6⟩ := s4.ofW ap3 live4 s5
    have s7 := (s6.drop i).drop j
    have ap7 : Zcm Z F5 (put (put own5 i []) j []) W := ap6.drop.drop
    generalize hown : put (put own5 i []) j [] = own7 at s7 ap7
    have hlen : (ks'.map keyD).length = ks'.length := List.length_map _
    refine ⟨fun n' mm σ' H' => mm = ks'.length - n' ∧ n' ≤ ks'.length ∧ σ'[i]? = some (some v) ∧ Skel W H' ks (m + n') v ∧ ∃ own', Zcm Z F5 own' W ∧ SR Z F5 H' σ' ((δ3.set i none).set j none) own', ⟨ks'.length, by simp, Nat.zero_le _, hvi, skel.mono (sH3.trans sH5), own7, ap7, s7⟩, ?_⟩
    rintro n' mm σ8 H8 ⟨rfl, hn', hv8, sk8, own8, ap8, s8⟩
    by_cases hlt : n' < ks'.length
    · have hd : (ks'.map keyD)[n']? = some (keyD ks'[n']) := by simp [hlt]
      obtain ⟨go, yy⟩ := (yl F5 H8 (Same.refl F5) s8.le n').1 _ hd
      refine .inr ⟨go, fun σ9 H9 => σ9[i]? = some (some v) ∧ Skel W H9 ks (m + (n' + 1)) v ∧ ∃ own', Zcm Z F5 own' W ∧ SR Z F5 H9 σ9 ((δ3.set i none).set j none) own', fun σ9 H9 ⟨a1, a2, a3⟩ => ⟨ks'.length - (n' + 1), by omega, rfl, hlt, a1, a2, a3⟩, fun x H9 hy => ?_⟩
      obtain ⟨sm, ns9, nd9, hn9, rp9⟩ := yy x H9 hy
      generalize hk : ks'[n'] = kk at rp9
      have hkm : kk ∈ ks' := by rw [← hk]; exact List.getElem_mem hlt
      have ex : x = kV kk := by
        cases kk with
        | inl z => cases rp9; rfl
        | inr z => cases rp9; rfl
      subst ex
      have sB := (s8.grow sm).blank j (some (kV kk))
      rw [List.set_set] at sB
      have apB : Zcm Z F5 (put own8 j []) W := ap8.drop
      have hjl8 : j < σ8.length := by
        have := s8.len
        rw [List.length_set, List.length_set] at this
        have h5 := s6.len
        rw [List.length_set] at h5
        omega
      have hvB : (σ8.set j (some (kV kk)))[i]? = some (some v) := by rw [List.getElem?_set_ne (Ne.symm hij)]; exact hv8
      have hjB : (σ8.set j (some (kV kk)))[j]? = some (some (kV kk)) := List.getElem?_set_self hjl8
      obtain ⟨d', sd', rd'⟩ := (sk8.mono sm).rep (K := K) (G := wH W H9 F5) fun b o hb e => by rw [Zuj hb]; exact e
      obtain ⟨δ4, h4⟩ := h2 kk hkm _ d' sd'
      have sC := sB.look apB hvB rd'
      have sD := sC.store (i := j) (TmpOk.fz (Zf3 kk)) (by rw [List.length_set]; exact hjl8)
      have eD : (σ8.set j (some (kV kk))).set j (some (kV kk)) = σ8.set j (some (kV kk)) := List.set_set _
      have eE : (((δ3.set i none).set j none).set i (some (SV.fz d'))).set j (some (.fz (keyD kk))) = (δ3.set i (some (.fz d'))).set j (some (.fz (keyD kk))) := by
        rw [List.set_comm _ _ hij.symm, List.set_set, List.set_set]
      rw [eD, eE] at sD
      refine ⟨_, _, _, false, δ4, sD, h4, fun HA FA ownA sHA sFA _ => ?_⟩
      obtain ⟨a, kvs, ep, t, xx, b, kvs2, ep2, ev, hA, hval, ht, hWb, hb, hl2, nextS⟩ := ((sk8.mono sm).mono sHA).way (hsub kk hkm)
      subst ev
      refine ⟨.ref a, hvB, kV kk, hjB, a, .ref t, rfl, .inl ⟨kvs, kk, ⟨ep, .inl hA⟩, rfl, hval.symm⟩, .inr (.inl ⟨t, [.str xx, .ref b], 1, .ref b, rfl, rfl, Zd4 ht, rfl, b, rfl, ?_⟩)⟩
      refine DPut.k (k := .inr c) ⟨ep2, hb⟩ (by omega) fun ep' => ⟨hvB, ?_, _, apB, (sB.grow sHA).updW apB hWb⟩
      exact nextS (.inr c) c' ep'
    · have hz' : n' = ks'.length := by omega
      subst hz'
      exact .inl ⟨(yl F5 H8 (Same.refl F5) s8.le _).2 (Nat.le_of_eq hlen), k σ8 H8 F5 own8 (sF.trans sF5) s8⟩
  · cases e
end
section
variable{X:Cx}{Z:Ent X.K}{a b c:Expr}{fa fb fc:FE}{pos:Pos}
theorem Zx1(i:Nat){k n:Nat}{f:Addr}{fd:FuncData}{ps:List Str}{g:List D→Option SV}{x y:Str}{p p1 p2:Pos}{es:List Expr}{fr:FD}(F:FnOk X.prog X.w X.K X.mg X.base CX0 k f fd ps (spOf X.K n g))(hr:Room k X.A)(hm:X.mg x=some (.ref f))(hk:PySem.W.keepIn X.K (.ref f)=true)(hb:Zax X.K fd ps [])
  (hN:X.N.Nodup) (ha:PA X (a::es) (Zay Z fr)) (hg:Gl X x:=by rfl) (hdb:(x==("__debug__":Str))=false:=by decide) (he:starEach (a::es) X.env=(false,eval a X.env)::starEach es X.env:=by rfl) (hpl:(backTo p2 (starEach es X.env)).any (·.1)=false:=by rfl)
  (hi:X.N[i]? =some y:=by rfl) (hx:Loc X.env.scope y:=by first|exact Or.inl rfl|exact Or.inr rfl) (hs:swapsWith (.Call (.Name x p) (a::es) [] p2) (some (.Name y p1)) pos.line X.env=pure false:=by rfl) (hf:X.fn y=true∨X.env.scope.names.lookup y=some .local:=by first|exact .inl rfl|exact .inr rfl):
  PS X (.Assign [.Name y p1] (.Call (.Name x p) (a::es) [] p2) pos) (tAsg (Zla (spOf X.K n g) [] (fun _ _ _=>False) (Zay Z fr)) (Zdx i)):=
 Zrk hN hi hx (Zig F hr hg hm hk hb .nil Zs2 ha hdb he hpl) hs hf
theorem w_if{T:FT}{bd:List Stmt}{f:FS}(hc:PT X c (Zaf Z T))(hb:PSs X bd (Zy Z f)):PS X (.If c bd [] pos) (tIfS (Zaf Z T) (Zy Z f) Zid):=Zvi hc hb Zl7
theorem Z1e(i j:Nat){x y cc cd:Str}{j1 j2 j3:Nat}{q1 q2 q3 q4 q5 q6 q7 q8:Pos}(hu:X.A.units+1<cLine)(ha:PE X (.Name x q1) (tVar i))(hb:PE X (.Name y q2) (tVar j))
  (hs:swapsWith (.Constant (.str cd) j3 q8) (some (.Subscript (.Subscript (.Subscript (.Name x q1) (.Name y q2) q3) (.Constant (.int 1) j1 q4) q5) (.Constant (.str cc) j2 q6) q7)) pos.line X.env=pure false:=by rfl):
  PS X (.Assign [.Subscript (.Subscript (.Subscript (.Name x q1) (.Name y q2) q3) (.Constant (.int 1) j1 q4) q5) (.Constant (.str cc) j2 q6) q7] (.Constant (.str cd) j3 q8) pos) (Zmr (tWay i j X.K) (tC (.str cc)) (tC (.str cd))):=
 Zmt hu (Zv0 Zro (Zms hu ha hb (by intro _ _;rfl)) Zri (by intro _ _;rfl)) Zjo Zjo hs
theorem Z1f(j:Nat){y:Str}{p1:Pos}{s1 s2:Stmt}{t1 t2:TS}{fi:FE}(hp:PassesOwn (model X.prog X.w) X.A X.env X.xe)(hc:X.calm=true)(hN:X.N.Nodup)(hi:∀Z':Ent X.K,PE X a (Zb Z' fi))(h1:PS X s1 t1)(h2:PS X s2 t2)
  (hj:X.N[j]? =some y:=by rfl) (hx:Loc X.env.scope y:=by first|exact Or.inl rfl|exact Or.inr rfl) (hf:X.fn y=true∨X.env.scope.names.lookup y=some .local:=by first|exact .inl rfl|exact .inr rfl) (hs:∀x,foldedSetIterable a X.env x=pure x:=by intro _;rfl):
  PS X (.For (.Name y p1) a [s1,s2] [] pos) (tFor (allI X.K fi) (Zdx j) (tSeq t1 t2)):=
 Zrl hp hc (fun pins s σ H R I ⟨Z',h⟩=>Z03 (hi Z') pins s σ H R I h) (Zl8 hN hj hx hf) (Zbl h1 (Zie h2)) hs
theorem Zuk{i j n:Nat}{g:List D→Option SV}{fd:FD}{T1 T2:FT}{fi:FE}{tb1 tb2:TS}{cc cd:Str}{s1 s2 s3:Stmt}{rest:List Stmt}{f0:FS}(h1:PS X s1 (tAsg (Zla (spOf X.K n g) [] (fun _ _ _=>False) (Zay Z fd)) (Zdx i)))(h2:PS X s2 (tIfS (Zaf Z T1) tb1 Zid))
  (h3:PS X s3 (tFor (allI X.K fi) (Zdx j) (tSeq (tIfS (Zaf Z T2) tb2 Zid) (Zmr (tWay i j X.K) (tC (.str cc)) (tC (.str cd)))))) (hr:PSs X rest (Zy Z f0)):PSs X (s1::s2::s3::rest) (Zy Z (seqF (Zi6 i j n g fd T1 fi T2) f0)):=
 (Zbl h1 (Zbl h2 (Zbl h3 hr))).imp fun D σ H h=>Zx0 (E:={D with nx:=Zy Z f0 D}) (Zwj h)
end
end DL
namespace My
open DL PySem
theorem Z0{n:Nat}(h:n≤16777216):n≤PySem.sizeLine:=h
theorem Zb3{n:Nat}(h:n<16777216):n<PySem.sizeLine:=h
noncomputable abbrev LET:Str:="ABCDEFGHIJKLMNOPQRSTUVWXYZabcdefghijklmnopqrstuvwxyz"
theorem Zi7(a b:Str):(a++b).length=a.length+b.length:=by
 show(a.cps++b.cps).size=a.cps.size+b.cps.size
 simp
theorem Z1g(c:Nat):(⟨#[c]⟩:Str).length=1:=rfl
theorem Zf5:∀xs:List Str,strs? (xs.map D.str)=some xs
 | []=>rfl
 |x::r=>by simp[Zf5 r]
theorem Zul(ns:List Int)(lo hi:Option Int):∃ms:List Int,cutD (ns.map D.int) lo hi=ms.map D.int∧ms.length≤ns.length:=by
 unfold cutD
 refine⟨(ns.drop _).take _,by rw[List.map_take,List.map_drop],?_⟩
 rw[List.length_take,List.length_drop];omega
noncomputable def cat:List Str→Str
 | []=>""
 |x::r=>x++cat r
theorem Zkl:∀xs:List Str,Str.join (Str.ofString "") xs=cat xs
 | []=>rfl
 | [x]=>by show x=x++Str.empty;rw[Str.append_empty]
 |x::y::r=>by
  show x++Str.empty++Str.join (Str.ofString "") (y::r)=x++cat (y::r)
  rw[Str.append_empty,Zkl (y::r)]
theorem Zx2(xs:List Str):Txt.join (Str.ofString "") xs=cat xs:=(StrLaws.glued_eq_join _ xs).trans (Zkl xs)
theorem Z1h(sep:Str)(xs:List Str):Txt.join sep xs=Str.join sep xs:=StrLaws.glued_eq_join _ xs
theorem Zsc{sep:Str}{xs:List Str}{B:Nat}(h:∀x∈xs,x.length≤B)(hz:xs.length*B+xs.length*sep.length≤16777216):JoinOk sep xs=true:=by
 unfold JoinOk
 rw[StrLaws.joinFits h hz];rfl
theorem Zkm{te:FE}{f:D→D}{c:Option SV}{j:Nat}:∀(xs ys:List D),(∀x∈xs,∀zs,te [some (.fz x),c,some (.ol zs)]=some (.tmp (.fz (f x)),[some (.fz x),c,some (.ol zs)]))→ys.length+xs.length≤16777216→
  Zm6 [.own,.cap j,.acc] 2 (Zq 0) Zp1 te xs [none,c,some (.ol ys)]=some [none,c,some (.ol (ys++xs.map f))]
 | [],ys,_,_=>by simp
 |x::xs,ys,h,hl=>by
  rw[List.length_cons]at hl
  have ih:=Zkm (te:=te) (f:=f) (c:=c) (j:=j) xs (ys++[f x]) (fun y hy=>h y (List.mem_cons_of_mem _ hy)) (by rw[List.length_append];simp;omega)
  have e1:=h x List.mem_cons_self ys
  have h4:ys.length<PySem.sizeLine:=Zb3 (by omega)
  simp[e1,h4]
  simpa using ih
theorem Zfg{f:D→D→Option Bool}:∀xs:List D,(∀x∈xs,f x x=some true)→Zle f xs xs=some true
 | [],_=>rfl
 |x::r,h=>by simp[h x List.mem_cons_self,Zfg r fun y hy=>h y (List.mem_cons_of_mem _ hy)]
end My
namespace My
open DL PySem StrLaws Builtin.Str
noncomputable def gap(n:Nat):Nat→List Nat→Prop
 |_,[]=>True
 |a,p::r=>a≤p∧gap n (p+n) r
theorem Zeo{n:Nat}:∀{a:Nat} {P:List Nat},gap n a P→∀i∈P,a≤i
 |_,[],_,i,h=>nomatch h
 |a,p::r,g,i,h=>by
  rcases List.mem_cons.mp h with e|e
  ·rw[e];exact g.1
  ·have:=Zeo g.2 i e
   have:=g.1
   omega
theorem Zop(s sub:Str)(hi limit:Nat)(hn:1≤sub.length):∀(m a:Nat) (found:Array Nat) (free:Nat) (P:List Nat),gap sub.length free P→(∀i∈P,a≤i∧i<a+m)→
  (∀i,a≤i→((free≤i∧At s sub hi i)↔i∈P))→
  (forIn (List.range' a m) (found,free) (occBody s sub hi limit)).run.fst.toList=found.toList++P.take (limit- found.size)
 |0,a,found,free,P,g,hb,hm=>by
  have:P=[]:=by
   cases P with
   |nil=>rfl
   |cons p r=>have:=hb p List.mem_cons_self;omega
  subst this
  simp
 |m+1,a,found,free,P,g,hb,hm=>by
  rw[List.range'_succ,List.forIn_cons]
  unfold occBody
  by_cases hl:found.size<limit
  ·by_cases ha:a∈P
   ·obtain⟨h1,h2,h3⟩:=(hm a (Nat.le_refl _)).mpr ha
    rw[if_pos ⟨⟨⟨hl,h1⟩,h2⟩,h3⟩]
    obtain⟨P',rfl⟩:∃P',P=a::P':=by
     cases P with
     |nil=>cases ha
     |cons p r=>
      rcases List.mem_cons.mp ha with e|e
      ·exact⟨r,by rw[e]⟩
      ·have:=Zeo g.2 a e
       have:=(hb p List.mem_cons_self).1
       omega
    have ih:=Zop s sub hi limit hn m (a+1) (found.push a) (a+sub.length) P' g.2 (fun i hi'=>by
      have z1:=Zeo g.2 i hi'
      have z2:=(hb i (List.mem_cons_of_mem _ hi')).2
      omega) (fun i hi'=>by
      constructor
      ·rintro⟨z1,z2⟩
       have:=(hm i (by omega)).mp ⟨by omega,z2⟩
       rcases List.mem_cons.mp this with e|e
       ·omega
       ·exact e
      ·intro z
       have z1:=Zeo g.2 i z
       exact⟨z1,((hm i (by omega)).mpr (List.mem_cons_of_mem _ z)).2⟩)
    refine Eq.trans ih ?_
    rw[Array.toList_push,Array.size_push,show limit- found.size=(limit- (found.size+1))+1 by omega,List.take_succ_cons,List.append_assoc]
    rfl
   ·rw[if_neg fun z=>ha ((hm a (Nat.le_refl _)).mp ⟨z.1.1.2,z.1.2,z.2⟩)]
    refine Zop s sub hi limit hn m (a+1) found free P g (fun i hi'=>?_) (fun i hi'=>hm i (by omega))
    have z:=hb i hi'
    have:i≠a:=fun e=>ha (by rw[←e];exact hi')
    omega
  ·rw[if_neg fun z=>hl z.1.1.1]
   have e0:limit- found.size=0:=by omega
   have ih:∀(l:List Nat) (st:Array Nat×Nat),¬st.fst.size<limit→(forIn l st (occBody s sub hi limit)).run.fst=st.fst:=by
    intro l
    induction l with
    |nil=>intro st _;rfl
    |cons x l ih=>
     intro st hst
     rw[List.forIn_cons]
     unfold occBody
     rw[if_neg fun z=>hst z.1.1.1]
     exact ih _ hst
   have:=ih (List.range' (a+1) m) (found,free) hl
   refine Eq.trans (congrArg Array.toList this) ?_
   rw[e0];simp
theorem Zx3(x y:Str)(limit:Nat)(P:List Nat)(hn:1≤y.length)(g:gap y.length 0 P)(hm:∀i,At x y x.length i↔i∈P):occurrences x y 0 x.length limit=P.take limit:=by
 rw[occ_eq]
 have:=Zop x y x.length limit hn (x.length+1- 0) 0 #[] 0 P g (fun i hi=>by
  have:=((hm i).mpr hi).1
  omega) (fun i _=>by rw[←hm i];simp)
 simpa using this
noncomputable def jl(y:List Nat):List (List Nat)→List Nat
 | []=>[]
 | [p]=>p
 |p::q::r=>p++y++jl y (q::r)
noncomputable def pos(n:Nat):Nat→List (List Nat)→List Nat
 |_,[]=>[]
 |_,[_]=>[]
 |a,p::q::r=>(a+p.length)::pos n (a+p.length+n) (q::r)
theorem Zi8(n:Nat):∀(a:Nat) (ps:List (List Nat)),gap n a (pos n a ps)
 |_,[]=>True.intro
 |_,[_]=>True.intro
 |a,p::q::r=>⟨Nat.le_add_right _ _,Zi8 n _ (q::r)⟩
theorem c_at{y:List Nat}{c o:Nat}(ho:∀j,y[j]? =some c→j=o):∀(ps:List (List Nat)) (a j:Nat),(∀p∈ps,c∉p)→(jl y ps)[j]? =some c→∃i∈pos y.length a ps,a+j=i+o
 | [],a,j,_,e=>by simp[jl]at e
 | [p],a,j,hp,e=>absurd (List.mem_of_getElem? e) (hp p List.mem_cons_self)
 |p::q::r,a,j,hp,e=>by
  have e:(p++y++jl y (q::r))[j]? =some c:=e
  by_cases h1:j<p.length
  ·rw[List.append_assoc,List.getElem?_append_left h1]at e
   exact absurd (List.mem_of_getElem? e) (hp p List.mem_cons_self)
  ·by_cases h2:j<p.length+y.length
   ·rw[List.append_assoc,List.getElem?_append_right (by omega),List.getElem?_append_left (by omega)]at e
    have:=ho _ e
    exact⟨a+p.length,List.mem_cons_self,by omega⟩
   ·rw[List.getElem?_append_right (by rw[List.length_append];omega),List.length_append]at e
    obtain⟨i,hi,ei⟩:=c_at ho (q::r) (a+p.length+y.length) _ (fun z hz=>hp z (List.mem_cons_of_mem _ hz)) e
    exact⟨i,List.mem_cons_of_mem _ hi,by omega⟩
theorem Zkn{y:List Nat}:∀(ps:List (List Nat)) (a i:Nat),i∈pos y.length a ps→a≤i∧i- a+y.length≤(jl y ps).length∧((jl y ps).drop (i- a)).take y.length=y
 | [],_,_,h=>nomatch h
 | [_],_,_,h=>nomatch h
 |p::q::r,a,i,h=>by
  show a≤i∧i- a+y.length≤(p++y++jl y (q::r)).length∧((p++y++jl y (q::r)).drop (i- a)).take y.length=y
  rcases List.mem_cons.mp h with e|e
  ·subst e
   rw[List.length_append,List.length_append,show a+p.length- a=p.length by omega]
   refine⟨by omega,by omega,?_⟩
   rw[List.append_assoc,List.drop_left,List.take_left]
  ·obtain⟨z1,z2,z3⟩:=Zkn (q::r) (a+p.length+y.length) i e
   rw[List.length_append,List.length_append]
   refine⟨by omega,by omega,?_⟩
   rw[show i- a=(p++y).length+(i- (a+p.length+y.length)) by rw[List.length_append];omega,←List.drop_drop,List.drop_left]
   exact z3
theorem Zc0(y:Str):∀ps:List Str,(Str.join y ps).cps.toList=jl y.cps.toList (ps.map fun p=>p.cps.toList)
 | []=>rfl
 | [p]=>rfl
 |p::q::r=>by
  show(p++y++Str.join y (q::r)).cps.toList=p.cps.toList++y.cps.toList++jl y.cps.toList ((q::r).map fun p=>p.cps.toList)
  rw[←Zc0 y (q::r)]
  simp[Str.cps_append]
theorem Zr(x:Str):x.cps.toList.length=x.length:=by simp[Str.length]
structure Sep(y:Str)(c o:Nat):Prop where
 at':y.cps.toList[o]? =some c
 one:∀j,y.cps.toList[j]? =some c→j=o
theorem Sep.pos{y:Str}{c o:Nat}(S:Sep y c o):1≤y.length:=by
 have:=(List.getElem?_eq_some_iff.mp S.at').1
 rw[Zr]at this;omega
theorem Zsd{y:Str}{c o:Nat}(S:Sep y c o)(ps:List Str)(hp:∀p∈ps,c∉p.cps.toList)(i:Nat):At (Str.join y ps) y (Str.join y ps).length i↔i∈pos y.length 0 (ps.map fun p=>p.cps.toList):=by
 have hL:=Zc0 y ps
 have hy:=Zr y
 constructor
 ·rintro⟨h1,h2⟩
  rw[subAt_eq]at h2
  have h2:=eq_of_beq h2
  have hc:(jl y.cps.toList (ps.map fun p=>p.cps.toList))[i+o]? =some c:=by
   have z:=S.at'
   rw[←h2,List.getElem?_take]at z
   split at z
   ·rw[List.getElem?_drop]at z
    rw[←hL];exact z
   ·cases z
  obtain⟨j,hj,e⟩:=c_at S.one (ps.map fun p=>p.cps.toList) 0 (i+o) (fun q hq=>by
   obtain⟨p,h,rfl⟩:=List.mem_map.mp hq
   exact hp p h) hc
  have:i=j:=by omega
  rw[this,←hy];exact hj
 ·intro h
  rw[←hy]at h
  obtain⟨z1,z2,z3⟩:=Zkn _ 0 i h
  rw[←hL]at z2 z3
  have hz:=Zr (Str.join y ps)
  refine⟨by omega,?_⟩
  rw[subAt_eq,←hy]
  simpa using z3
theorem Zdp{y:Str}{c o:Nat}(S:Sep y c o)(ps:List Str)(hp:∀p∈ps,c∉p.cps.toList)(limit:Nat):
  occurrences (Str.join y ps) y 0 (Str.join y ps).length limit=(pos y.length 0 (ps.map fun p=>p.cps.toList)).take limit:=
 Zx3 _ _ _ _ S.pos (Zi8 _ _ _) (Zsd S ps hp)
theorem Zdq(x:Str)(l:List Nat)(i j:Nat)(h:(x.cps.toList.drop i).take (j- i)=l):strSub x i j=⟨l.toArray⟩:=by
 apply Str.ext'
 apply Array.toList_inj.mp
 rw[strSub_toList,h]
theorem Zdr{y:List Nat}(x:Str):∀(ps:List (List Nat)) (a:Nat),ps≠[]→x.cps.toList.drop a=jl y ps→a≤x.length→partsFrom x y.length a (pos y.length a ps)=ps.map fun p=>⟨p.toArray⟩
 | [],_,h,_,_=>absurd rfl h
 | [p],a,_,e,ha=>by
  show[strSub x a x.length]=[⟨p.toArray⟩]
  rw[Zdq x p a x.length (by
   rw[e]
   show p.take _=p
   have:=congrArg List.length e
   rw[List.length_drop,Zr]at this
   have e2:(jl y [p]).length=p.length:=rfl
   rw[e2]at this
   rw[this];exact List.take_length)]
 |p::q::r,a,_,e,ha=>by
  have e:x.cps.toList.drop a=p++y++jl y (q::r):=e
  show strSub x a (a+p.length)::partsFrom x y.length (a+p.length+y.length) (pos y.length (a+p.length+y.length) (q::r))=⟨p.toArray⟩::((q::r).map fun p=>⟨p.toArray⟩)
  have l1:=congrArg List.length e
  rw[List.length_drop,Zr,List.length_append,List.length_append]at l1
  rw[Zdq x p a (a+p.length) (by rw[e,show a+p.length- a=p.length by omega,List.append_assoc,List.take_left])]
  rw[Zdr x (q::r) (a+p.length+y.length) (by simp) (by
   rw[show a+p.length+y.length=a+(p++y).length by rw[List.length_append];omega,←List.drop_drop,e,List.drop_left]) (by omega)]
theorem back(ps:List Str):(ps.map fun p=>p.cps.toList).map (fun p=>(⟨p.toArray⟩:Str))=ps:=by
 rw[List.map_map]
 have:∀p:Str,((fun p=>(⟨p.toArray⟩:Str))∘fun p:Str=>p.cps.toList) p=p:=fun p=>rfl
 rw[List.map_congr_left (fun p _=>this p),List.map_id']
theorem Zf6(x:Str):1≤Builtin.Str.strKind x:=by unfold Builtin.Str.strKind;split<;> (try split)<;> decide
theorem Zi9{n a:Nat}:∀{ps:List (List Nat)},pos n a ps=[]→ps=[]∨∃p,ps=[p]
 | [],_=>.inl rfl
 | [p],_=>.inr ⟨p,rfl⟩
theorem Zlo{y:Str}{c o:Nat}(S:Sep y c o)(hk:Builtin.Str.strKind y=1)(ps:List Str)(h0:ps≠[])(hp:∀p∈ps,c∉p.cps.toList):Txt.split (Str.join y ps) y=ps:=by
 have hP:occurrences (Str.join y ps) y 0 (Str.join y ps).length ((Str.join y ps).length+1)=pos y.length 0 (ps.map fun p=>p.cps.toList):=by
  have h1:=Zdp S ps hp ((Str.join y ps).length+1)
  have h2:=Zdp S ps hp (((Str.join y ps).length+1)+(pos y.length 0 (ps.map fun p=>p.cps.toList)).length)
  rw[List.take_of_length_le (Nat.le_add_left _ _)]at h2
  have h3:=occ_length_le_len (Str.join y ps) y 0 (Str.join y ps).length (((Str.join y ps).length+1)+(pos y.length 0 (ps.map fun p=>p.cps.toList)).length)
  rw[h2]at h3
  rw[h1,List.take_of_length_le (by omega)]
 have one:pos y.length 0 (ps.map fun p=>p.cps.toList)=[]→Str.join y ps=ps.headD Str.empty∧[ps.headD Str.empty]=ps:=fun e=>by
  rcases Zi9 e with z|⟨p,z⟩
  ·exact absurd (List.map_eq_nil_iff.mp z) h0
  ·match ps,z with
   | [q],_=>exact⟨rfl,rfl⟩
 unfold Txt.split
 by_cases hs:(decide ((Str.join y ps).length<y.length)||decide (Builtin.Str.strKind (Str.join y ps)<Builtin.Str.strKind y))=true
 ·rw[if_pos hs]
  have hlt:(Str.join y ps).length<y.length:=by
   rw[hk]at hs
   have:=Zf6 (Str.join y ps)
   rcases Bool.or_eq_true_iff.mp hs with z|z
   ·exact of_decide_eq_true z
   ·have:=of_decide_eq_true z;omega
  have e:pos y.length 0 (ps.map fun p=>p.cps.toList)=[]:=by
   cases hq:pos y.length 0 (ps.map fun p=>p.cps.toList)with
   |nil=>rfl
   |cons i r=>
    have:=((Zsd S ps hp i).mpr (by rw[hq];exact List.mem_cons_self)).1
    omega
  rw[(one e).1];exact(one e).2
 ·rw[if_neg hs,hP]
  by_cases he:(pos y.length 0 (ps.map fun p=>p.cps.toList)).isEmpty=true
  ·rw[if_pos he]
   have e:=List.isEmpty_iff.mp he
   rw[(one e).1];exact(one e).2
  ·rw[if_neg he,partsBetween_eq]
   have z:=Zdr (y:=y.cps.toList) (Str.join y ps) (ps.map fun p=>p.cps.toList) 0 (by simpa using h0) (by rw[List.drop_zero];exact Zc0 y ps) (Nat.zero_le _)
   rw[Zr,back]at z
   exact z
theorem Zq5{y:Str}{c o:Nat}(S:Sep y c o)(p:Str)(hp:c∉p.cps.toList):Txt.partition p y=(p,Str.empty,Str.empty):=by
 have h1:=Zdp S [p] (fun q hq=>by rw[List.mem_singleton.mp hq];exact hp) 1
 unfold Txt.partition
 rw[show Str.join y [p]=p from rfl]at h1
 rw[h1];rfl
end My
namespace My
open DL PySem
theorem Zb4{tg:FG}{body:FS}{d:D}{ds:List D}{δ δ1 δ2:DSt}(h1:tg.run d δ=some δ1)(h2:body δ1=some (.nx δ2)):forD tg body (d::ds) δ=forD tg body ds δ2:=by
 show(tg.run d δ).bind _=_
 rw[h1,Option.bind_some,h2,Option.bind_some]
theorem Zum{tg:FG}{body:FS}{d:D}{ds:List D}{δ δ1:DSt}{sv:SV}(h1:tg.run d δ=some δ1)(h2:body δ1=some (.rt sv)):forD tg body (d::ds) δ=some (.rt sv):=by
 show(tg.run d δ).bind _=_
 rw[h1,Option.bind_some,h2,Option.bind_some]
noncomputable abbrev S(l:List Nat):Str:=⟨l.toArray⟩
theorem Z9(l:List Nat):(S l).length=l.length:=by show l.toArray.size=_;simp
theorem Zbg(a b:List Nat):S a++S b=S (a++b):=by
 show(⟨a.toArray++b.toArray⟩:Str)=⟨(a++b).toArray⟩
 simp
theorem Zja{a b:List Nat}(h:S a=S b):a=b:=by
 have:a.toArray=b.toArray:=congrArg Str.cps h
 simpa using this
theorem S_ne{a b:List Nat}(h:a≠b):S a≠S b:=fun e=>h (Zja e)
theorem S_of(x:Str):x=S x.cps.toList:=by cases x;simp
theorem Za8(l:List Nat):(S l).cps.toList=l:=by simp
theorem Zhu{α:Type}(p:List α)(i:Nat)(c:α)(h:p[i]? =some c):L2.atI p (i:Int)=some c:=by
 have hl:=(List.getElem?_eq_some_iff.mp h).1
 unfold L2.atI L2.ixN
 rw[if_pos (by omega),if_pos (by omega)]
 simpa using h
section
variable{κ:Type}[DecidableEq κ]
theorem Zko(k k':κ)(v:D):∀(ks:List κ) (vs:List D),k∈ks→ks.length=vs.length→look ks ((ks.zip vs).map fun p=>if p.1=k then v else p.2) k'=if k=k' then some v else look ks vs k'
 |a::ks,u::vs,hk,hl=>by
  rw[List.zip_cons_cons,List.map_cons]
  show(if a=k' then some (if a=k then v else u)else look ks ((ks.zip vs).map fun p=>if p.1=k then v else p.2) k')=if k=k' then some v else(if a=k' then some u else look ks vs k')
  by_cases ha:a=k'
  ·subst ha
   rw[if_pos rfl,if_pos rfl]
   by_cases hk2:a=k
   ·subst hk2;rw[if_pos rfl,if_pos rfl]
   ·rw[if_neg hk2,if_neg fun e=>hk2 e.symm]
  ·rw[if_neg ha,if_neg ha]
   by_cases hm:k∈ks
   ·exact Zko k k' v ks vs hm (by simpa using hl)
   ·have hak:k=a:=by
     rcases List.mem_cons.mp hk with e|e
     ·exact e
     ·exact absurd e hm
    rw[if_neg fun e=>ha (hak.symm.trans e)]
    have:((ks.zip vs).map fun p=>if p.1=k then v else p.2)=vs:=by
     have hl':ks.length=vs.length:=by simpa using hl
     clear hk hl ha
     induction ks generalizing vs with
     |nil=>cases vs with
      |nil=>rfl
      |cons _ _=>simp at hl'
     |cons b ks ih=>cases vs with
      |nil=>simp at hl'
      |cons w vs=>
       rw[List.zip_cons_cons,List.map_cons,if_neg fun e=>hm (by rw[←e];exact List.mem_cons_self),ih vs (fun h=>hm (List.mem_cons_of_mem _ h)) (by simpa using hl')]
    rw[this]
 | [],_,hk,_=>nomatch hk
theorem Zhv(k k':κ)(v:D):∀(ks:List κ) (vs:List D),k∉ks→ks.length=vs.length→look (ks++[k]) (vs++[v]) k'=if k=k' then some v else look ks vs k'
 | [],[],_,_=>by show(if k=k' then some v else none)=_;rfl
 |a::ks,u::vs,hk,hl=>by
  show(if a=k' then some u else look (ks++[k]) (vs++[v]) k')=if k=k' then some v else(if a=k' then some u else look ks vs k')
  by_cases ha:a=k'
  ·rw[if_pos ha,if_pos ha,if_neg fun e=>hk (by rw[e,←ha];exact List.mem_cons_self)]
  ·rw[if_neg ha,if_neg ha]
   exact Zhv k k' v ks vs (fun h=>hk (List.mem_cons_of_mem _ h)) (by simpa using hl)
theorem Zf7(k k':κ)(v:D)(ks:List κ)(vs:List D)(hl:ks.length=vs.length):look (putA ks vs k v).1 (putA ks vs k v).2 k'=if k=k' then some v else look ks vs k':=by
 unfold putA
 split
 ·rename_i h;exact Zko k k' v ks vs h hl
 ·rename_i h;exact Zhv k k' v ks vs h hl
theorem Zep(k:κ)(v:D)(ks:List κ)(vs:List D)(hl:ks.length=vs.length):(putA ks vs k v).1.length=(putA ks vs k v).2.length∧(putA ks vs k v).2.length≤vs.length+1:=by
 unfold putA
 split
 ·simp[hl]
 ·simp[hl]
end
end My
namespace My
open DL PySem
noncomputable abbrev nats(s n:Nat):List D:=(List.range' s n).map fun i:Nat=>D.int (i:Int)
theorem Zc1(n:Nat):Zir 0 n=nats 0 n:=by
 unfold Zir
 rw[List.range_eq_range']
 refine List.map_congr_left fun i _=>?_
 simp
theorem Zeq{tg:FG}{body:FS}{P:Nat→DSt→Prop}:∀(n s:Nat) (δ:DSt),P s δ→(∀i,s≤i→i<s+n→∀δ,P i δ→∃δ1 δ2,tg.run (.int (i:Int)) δ=some δ1∧body δ1=some (.nx δ2)∧P (i+1) δ2)→
  ∃δ',forD tg body (nats s n) δ=some (.nx δ')∧P (s+n) δ'
 |0,s,δ,h,_=>⟨δ,rfl,h⟩
 |n+1,s,δ,h,k=>by
  obtain⟨δ1,δ2,h1,h2,h3⟩:=k s (Nat.le_refl _) (by omega) δ h
  obtain⟨δ',e,h'⟩:=Zeq (tg:=tg) (body:=body) (P:=P) n (s+1) δ2 h3 fun i hi hj=>k i (by omega) (by omega)
  refine⟨δ',?_,by rw[show s+(n+1)=s+1+n by omega];exact h'⟩
  show forD tg body (.int (s:Int)::nats (s+1) n) δ=_
  rw[Zb4 h1 h2];exact e
noncomputable def Zoq(i:Nat):List D→List D
 | []=>[]
 |x::r=>.tup [.int (i:Int),x]::Zoq (i+1) r
theorem Zx4(xs:List D):∀i:Nat,((xs.zipIdx i).map fun p:D×Nat=>D.tup [.int (p.2:Nat),p.1])=Zoq i xs:=by
 induction xs with
 |nil=>intro i;rfl
 |cons x r ih=>intro i;rw[List.zipIdx_cons,List.map_cons,ih];rfl
theorem Zun(xs:List D):Zd9 xs=Zoq 0 xs:=Zx4 xs 0
theorem Zuo(n:Nat)(xs:List D)(h:∀x∈xs,eqM n x x=some true):eqM (n+1) (.tup xs) (.tup xs)=some true:=by
 simp[Zfg xs h]
theorem Zor(n:Nat)(x:Str):eqM (n+1) (.str x) (.str x)=some true:=by simp
theorem Zq6(xs:List D)(m:Nat)(h:m≤xs.length):cutD xs (some (m:Int)) none=xs.drop m:=by
 unfold cutD HT.sIx
 dsimp only
 rw[if_neg (by omega),show min ((m:Int)).toNat xs.length=m by omega]
 rw[List.take_of_length_le (by rw[List.length_drop];omega)]
theorem Zkp{α:Type}(l:List α)(x n:Int)(hl:(l.length:Int)=n)(hn:0<n):∃c,c∈l∧L2.atI l (x % n)=some c:=by
 have h0:0≤x % n:=Int.emod_nonneg _ (by omega)
 have h1:x % n<n:=Int.emod_lt_of_pos _ hn
 obtain⟨j,hj⟩:=Int.eq_ofNat_of_zero_le h0
 have hjl:j<l.length:=by omega
 rw[hj]
 exact⟨l[j],List.getElem_mem hjl,Zhu _ _ _ (List.getElem?_eq_getElem hjl)⟩
end My
namespace My
open DL PySem StrLaws Builtin.Str
theorem Zer(c:Nat):∀l:List Nat,∃qs:List Str,qs≠[]∧(∀p∈qs,c∉p.cps.toList)∧S l=Str.join (S [c]) qs
 | []=>⟨[S []],by simp,by simp,rfl⟩
 |d::l=>by
  obtain⟨qs,h1,h2,h3⟩:=Zer c l
  have e:S (d::l)=S [d]++S l:=(Zbg [d] l).symm
  cases qs with
  |nil=>exact absurd rfl h1
  |cons q r=>
   by_cases hd:d=c
   ·subst hd
    refine⟨S []::q::r,by simp,fun p hp=>?_,?_⟩
    ·rcases List.mem_cons.mp hp with hp|hp
     ·rw[hp];simp
     ·exact h2 p hp
    ·show S (d::l)=S []++S [d]++Str.join (S [d]) (q::r)
     rw[←h3,e,Zbg [] [d]]
     rfl
   ·refine⟨(S [d]++q)::r,by simp,fun p hp=>?_,?_⟩
    ·rcases List.mem_cons.mp hp with hp|hp
     ·rw[hp]
      have:(S [d]++q).cps.toList=d::q.cps.toList:=by simp[Str.cps_append]
      rw[this,List.mem_cons]
      exact fun z=>z.elim (fun z=>hd z.symm) (h2 q List.mem_cons_self)
     ·exact h2 p (List.mem_cons_of_mem _ hp)
    ·rw[e,h3]
     cases r with
     |nil=>rfl
     |cons q2 r=>
      show S [d]++(q++S [c]++Str.join (S [c]) (q2::r))=(S [d]++q)++S [c]++Str.join (S [c]) (q2::r)
      simp only[Str.append_assoc]
theorem Zjb(c:Nat):Sep (S [c]) c 0:=⟨by simp,fun j h=>by
 cases j with
 |zero=>rfl
 |succ j=>simp at h⟩
theorem Zlp(c:Nat)(p q:Str)(hp:c∉p.cps.toList):Txt.partition (p++S [c]++q) (S [c])=(p,S [c],q):=by
 have SS:=Zjb c
 obtain⟨qs,hq1,hq2,hq3⟩:=Zer c q.cps.toList
 rw[←S_of q]at hq3
 have h1:=Zdp SS (p::qs) (fun z hz=>by
  rcases List.mem_cons.mp hz with e|e
  ·rw[e];exact hp
  ·exact hq2 z e) 1
 obtain⟨q1,r,hqr⟩:∃q1 r,qs=q1::r:=by
  cases qs with
  |nil=>exact absurd rfl hq1
  |cons q1 r=>exact⟨q1,r,rfl⟩
 have ej:Str.join (S [c]) (p::qs)=p++S [c]++q:=by
  rw[hq3,hqr];rfl
 rw[ej]at h1
 have e:(pos (S [c]).length 0 ((p::qs).map fun p=>p.cps.toList)).take 1=[p.length]:=by
  rw[hqr]
  show[0+p.cps.toList.length]=[p.length]
  rw[Zr,Nat.zero_add]
 rw[e]at h1
 have eL:(p++S [c]++q).cps.toList=p.cps.toList++(S [c]).cps.toList++q.cps.toList:=by simp[Str.cps_append]
 have hl:(p++S [c]++q).length=p.length+(S [c]).length+q.length:=by rw[Zi7,Zi7]
 unfold Txt.partition
 rw[h1]
 have a1:=Zdq (p++S [c]++q) p.cps.toList 0 p.length (by rw[List.drop_zero,Nat.sub_zero,eL,List.append_assoc,←Zr p,List.take_left])
 have a2:=Zdq (p++S [c]++q) q.cps.toList (p.length+(S [c]).length) (p++S [c]++q).length (by
  rw[eL,hl,show p.length+(S [c]).length=(p.cps.toList++(S [c]).cps.toList).length by rw[List.length_append,Zr,Zr],List.drop_left]
  exact List.take_of_length_le (by rw[Zr];omega))
 show(strSub (p++S [c]++q) 0 p.length,S [c],strSub (p++S [c]++q) (p.length+(S [c]).length) (p++S [c]++q).length)=(p,S [c],q)
 rw[a1,a2]
theorem Zhw(y x:Str):∀xs:List Str,Str.join y (x::xs)=x++cat (xs.map fun z=>y++z)
 | []=>by show x=x++Str.empty;rw[Str.append_empty]
 |z::r=>by
  show x++y++Str.join y (z::r)=x++(y++z++cat (r.map fun z=>y++z))
  rw[Zhw y z r]
  simp only[Str.append_assoc]
end My
namespace My
open DL PySem
noncomputable abbrev inrs(xs:List Str):List L2.Key:=xs.map Sum.inr
theorem Zc2(k:Str):∀(xs:List Str) (vs:List D),look (inrs xs) vs (Sum.inr k)=look xs vs k
 | [],[]=>rfl
 | [],_::_=>rfl
 |_::_,[]=>rfl
 |x::xs,v::vs=>by
  show(if(Sum.inr x:L2.Key)=Sum.inr k then some v else look (inrs xs) vs (Sum.inr k))=if x=k then some v else look xs vs k
  rw[Zc2 k xs vs]
  by_cases h:x=k
  ·rw[if_pos h,if_pos (by rw[h])]
  ·rw[if_neg h,if_neg fun e=>h (Sum.inr.inj e)]
theorem Zds(k:Str)(v:D)(xs:List Str)(vs:List D):putA (inrs xs) vs (Sum.inr k) v=(inrs (putA xs vs k v).1,(putA xs vs k v).2):=by
 have hm:((Sum.inr k:L2.Key)∈inrs xs)↔k∈xs:=by
  constructor
  ·intro h
   obtain⟨y,hy,e⟩:=List.mem_map.mp h
   rw[←Sum.inr.inj e];exact hy
  ·exact fun h=>List.mem_map.mpr ⟨k,h,rfl⟩
 unfold putA
 by_cases h:k∈xs
 ·rw[if_pos h,if_pos (hm.mpr h)]
  congr 1
  have:∀(xs:List Str) (vs:List D),((inrs xs).zip vs).map (fun p=>if p.1=(Sum.inr k:L2.Key)then v else p.2)=(xs.zip vs).map fun p=>if p.1=k then v else p.2:=by
   intro xs
   induction xs with
   |nil=>intro vs;rfl
   |cons x xs ih=>
    intro vs
    cases vs with
    |nil=>rfl
    |cons u vs=>
     show(if(Sum.inr x:L2.Key)=Sum.inr k then v else u)::((inrs xs).zip vs).map (fun p=>if p.1=(Sum.inr k:L2.Key)then v else p.2)=(if x=k then v else u)::(xs.zip vs).map fun p=>if p.1=k then v else p.2
     rw[ih vs]
     by_cases hx:x=k
     ·rw[if_pos hx,if_pos (by rw[hx])]
     ·rw[if_neg hx,if_neg fun e=>hx (Sum.inr.inj e)]
  exact this xs vs
 ·rw[if_neg h,if_neg fun e=>h (hm.mp e)]
  simp[inrs]
theorem Zkq{k:Str}{v:D}{xs:List Str}{vs:List D}(h:k∉xs):putA xs vs k v=(xs++[k],vs++[v]):=by
 unfold putA;rw[if_neg h]
theorem Zlq(k:Str)(v:D)(xs:List Str)(vs:List D)(h:xs.Nodup):(putA xs vs k v).1.Nodup:=by
 unfold putA
 split
 ·exact h
 ·rename_i hk
  exact List.nodup_append.mpr ⟨h,by simp,fun a ha b hb e=>hk (by rw[List.mem_singleton.mp hb]at e;rw[←e];exact ha)⟩
theorem Zhx(k:Str)(v:D)(xs:List Str)(vs:List D):∀u∈(putA xs vs k v).2,u=v∨u∈vs:=by
 intro u hu
 unfold putA at hu
 split at hu
 ·obtain⟨p,hp,e⟩:=List.mem_map.mp hu
  split at e
  ·exact .inl e.symm
  ·exact .inr (by rw[←e];exact(List.of_mem_zip hp).2)
 ·rcases List.mem_append.mp hu with h|h
  ·exact .inr h
  ·exact .inl (List.mem_singleton.mp h)
structure Dic(xs:List Str)(vs:List D):Prop where
 nd:xs.Nodup
 len:xs.length=vs.length
theorem Dic.put{xs:List Str}{vs:List D}(h:Dic xs vs)(k:Str)(v:D):Dic (putA xs vs k v).1 (putA xs vs k v).2:=⟨Zlq k v xs vs h.nd,(Zep k v xs vs h.len).1⟩
theorem Zq7{xs:List Str}:∀{vs:List D},xs.Nodup→xs.length=vs.length→∀(i:Nat) (x:Str) (v:D),xs[i]? =some x→vs[i]? =some v→look xs vs x=some v:=by
 induction xs with
 |nil=>intro vs _ _ i x v h;simp at h
 |cons y xs ih=>
  intro vs nd hl i x v hx hv
  cases vs with
  |nil=>simp at hv
  |cons u vs=>
   obtain⟨n1,n2⟩:=List.nodup_cons.mp nd
   show(if y=x then some u else look xs vs x)=some v
   cases i with
   |zero=>
    simp at hx hv
    rw[if_pos hx,hv]
   |succ i=>
    simp at hx hv
    have hm:=List.mem_of_getElem? hx
    rw[if_neg fun e=>n1 (by rw[e];exact hm)]
    exact ih n2 (by simpa using hl) i x v hx hv
theorem Zos{xs:List Str}:∀{vs:List D} {x:Str},x∉xs→look xs vs x=none:=by
 induction xs with
 |nil=>intro vs x _;cases vs<;> rfl
 |cons y xs ih=>
  intro vs x h
  cases vs with
  |nil=>rfl
  |cons u vs=>
   show(if y=x then some u else look xs vs x)=none
   rw[if_neg fun e=>h (by rw[e];exact List.mem_cons_self)]
   exact ih fun hm=>h (List.mem_cons_of_mem _ hm)
theorem Zkr{xs:List Str}:∀{vs:List D} {x:Str} {v:D},look xs vs x=some v→v∈vs:=by
 induction xs with
 |nil=>intro vs x v h;cases vs<;> cases h
 |cons y xs ih=>
  intro vs x v h
  cases vs with
  |nil=>cases h
  |cons u vs=>
   have h:(if y=x then some u else look xs vs x)=some v:=h
   split at h
   ·cases h;exact List.mem_cons_self
   ·exact List.mem_cons_of_mem _ (ih h)
theorem Zks:∀xs:List Str,strK? (inrs xs)=some xs
 | []=>rfl
 |x::xs=>by
  show(strK? (inrs xs)).bind (fun t=>some (x::t))=some (x::xs)
  rw[Zks xs];rfl
theorem Zhy{f:D→D→Option Bool}{ys:List Str}{us:List D}:∀(xs:List Str) (vs:List D),(∀(i:Nat) (x:Str) (v:D),xs[i]? =some x→vs[i]? =some v→look ys us x=some v∧f v v=some true)→eqKV f ys us xs vs=some true
 | [],_,_=>rfl
 |_::_,[],_=>rfl
 |x::xs,v::vs,h=>by
  obtain⟨h1,h2⟩:=h 0 x v rfl rfl
  have ih:=Zhy xs vs fun i x v hx hv=>h (i+1) x v (by simpa using hx) (by simpa using hv)
  show(match look ys us x with
   |none=>some false
   |some u=>(f v u).bind fun b=>(eqKV f ys us xs vs).bind fun c=>some (b&&c))=some true
  rw[h1]
  dsimp only
  rw[h2,ih];rfl
theorem Zse(n:Nat){xs:List Str}{vs:List D}(h:Dic xs vs)(hv:∀v∈vs,eqM n v v=some true):eqM (n+1) (.dK (inrs xs) vs) (.dK (inrs xs) vs)=some true:=by
 show(strK? (inrs xs)).bind (fun xs'=>(strK? (inrs xs)).bind fun ys=>if xs'.length=ys.length then eqKV (eqM n) ys vs xs' vs else some false)=some true
 rw[Zks]
 dsimp only[Option.bind]
 rw[if_pos rfl]
 exact Zhy xs vs fun i x v hx hv'=>⟨Zq7 h.nd h.len i x v hx hv',hv v (List.mem_of_getElem? hv')⟩
end My
namespace My
open DL PySem StrLaws Builtin.Str
theorem Zot(s sub:Str)(hi limit:Nat)(hn:1≤sub.length):∀(m a:Nat) (found:Array Nat) (free:Nat) (P:List Nat),gap sub.length free P→(∀i∈P,a≤i∧i<a+m)→(∀i∈P,At s sub hi i)→
  (∀i,a≤i→free≤i→At s sub hi i→(i∈P∨∃p∈P,p<i∧i<p+sub.length))→
  (forIn (List.range' a m) (found,free) (occBody s sub hi limit)).run.fst.toList=found.toList++P.take (limit- found.size)
 |0,a,found,free,P,g,hb,hA,hm=>by
  have:P=[]:=by
   cases P with
   |nil=>rfl
   |cons p r=>have:=hb p List.mem_cons_self;omega
  subst this
  simp
 |m+1,a,found,free,P,g,hb,hA,hm=>by
  rw[List.range'_succ,List.forIn_cons]
  unfold occBody
  by_cases hl:found.size<limit
  ·by_cases ha:a∈P
   ·have h1:=Zeo g a ha
    obtain⟨h2,h3⟩:=hA a ha
    rw[if_pos ⟨⟨⟨hl,h1⟩,h2⟩,h3⟩]
    obtain⟨P',rfl⟩:∃P',P=a::P':=by
     cases P with
     |nil=>cases ha
     |cons p r=>
      rcases List.mem_cons.mp ha with e|e
      ·exact⟨r,by rw[e]⟩
      ·have:=Zeo g.2 a e
       have:=(hb p List.mem_cons_self).1
       omega
    have ih:=Zot s sub hi limit hn m (a+1) (found.push a) (a+sub.length) P' g.2 (fun i hi'=>by
      have z1:=Zeo g.2 i hi'
      have z2:=(hb i (List.mem_cons_of_mem _ hi')).2
      omega) (fun i hi'=>hA i (List.mem_cons_of_mem _ hi')) (fun i hi' hf z=>by
      rcases hm i (by omega) (by omega) z with e|⟨p,hp,e⟩
      ·rcases List.mem_cons.mp e with e|e
       ·omega
       ·exact .inl e
      ·rcases List.mem_cons.mp hp with e1|e1
       ·omega
       ·exact .inr ⟨p,e1,e⟩)
    refine Eq.trans ih ?_
    rw[Array.toList_push,Array.size_push,show limit- found.size=(limit- (found.size+1))+1 by omega,List.take_succ_cons,List.append_assoc]
    rfl
   ·rw[if_neg fun z=>by
     rcases hm a (Nat.le_refl _) z.1.1.2 ⟨z.1.2,z.2⟩with e|⟨p,hp,e⟩
     ·exact ha e
     ·have:=(hb p hp).1;omega]
    refine Zot s sub hi limit hn m (a+1) found free P g (fun i hi'=>?_) hA (fun i hi'=>hm i (by omega))
    have z:=hb i hi'
    have:i≠a:=fun e=>ha (by rw[←e];exact hi')
    omega
  ·rw[if_neg fun z=>hl z.1.1.1]
   have e0:limit- found.size=0:=by omega
   have ih:∀(l:List Nat) (st:Array Nat×Nat),¬st.fst.size<limit→(forIn l st (occBody s sub hi limit)).run.fst=st.fst:=by
    intro l
    induction l with
    |nil=>intro st _;rfl
    |cons x l ih=>
     intro st hst
     rw[List.forIn_cons]
     unfold occBody
     rw[if_neg fun z=>hst z.1.1.1]
     exact ih _ hst
   have:=ih (List.range' (a+1) m) (found,free) hl
   refine Eq.trans (congrArg Array.toList this) ?_
   rw[e0];simp
noncomputable def Zfh(y l:List Nat)(i:Nat):Prop:=i+y.length≤l.length∧(l.drop i).take y.length=y
noncomputable def Fits(y:List Nat):List (List Nat)→Prop
 | []=>False
 | [p]=>∀i,¬Zfh y p i
 |p::q::r=>(∀i,i<p.length→¬Zfh y (p++y++jl y (q::r)) i)∧Fits y (q::r)
theorem Zhz(x y:Str)(i:Nat):At x y x.length i↔Zfh y.cps.toList x.cps.toList i:=by
 unfold At Zfh
 rw[subAt_eq,Zr,Zr]
 constructor
 ·rintro⟨h1,h2⟩;exact⟨h1,eq_of_beq h2⟩
 ·rintro⟨h1,h2⟩;exact⟨h1,by rw[h2];exact beq_self_eq_true _⟩
theorem Zou{y:List Nat}:∀(ps:List (List Nat)) (a i:Nat),Fits y ps→a≤i→Zfh y (jl y ps) (i- a)→(i∈pos y.length a ps∨∃p∈pos y.length a ps,p<i∧i<p+y.length)
 | [],_,_,h,_,_=>h.elim
 | [p],a,i,h,_,s=>(h _ s).elim
 |p::q::r,a,i,h,ha,s=>by
  have s:Zfh y (p++y++jl y (q::r)) (i- a):=s
  show i∈(a+p.length)::pos y.length (a+p.length+y.length) (q::r)∨_
  by_cases h1:i- a<p.length
  ·exact(h.1 _ h1 s).elim
  by_cases h2:i=a+p.length
  ·exact .inl (by rw[h2];exact List.mem_cons_self)
  by_cases h3:i<a+p.length+y.length
  ·exact .inr ⟨a+p.length,List.mem_cons_self,by omega,h3⟩
  ·have e:i- a=(p++y).length+(i- (a+p.length+y.length)):=by rw[List.length_append];omega
   obtain⟨s1,s2⟩:=s
   rw[e,←List.drop_drop,List.drop_left]at s2
   rw[List.length_append]at s1
   have:=Zou (q::r) (a+p.length+y.length) i h.2 (by omega) ⟨by rw[e,List.length_append]at s1;omega,s2⟩
   rcases this with z|⟨p',hp,z⟩
   ·exact .inl (List.mem_cons_of_mem _ z)
   ·exact .inr ⟨p',List.mem_cons_of_mem _ hp,z⟩
theorem Zf8(x y:Str)(hn:1≤y.length)(ps:List (List Nat))(h:Fits y.cps.toList ps)(e:x.cps.toList=jl y.cps.toList ps)(limit:Nat):
  occurrences x y 0 x.length limit=(pos y.length 0 ps).take limit:=by
 rw[occ_eq]
 have hA:∀i∈pos y.length 0 ps,At x y x.length i:=fun i hi=>by
  rw[Zhz,e]
  rw[←Zr y]at hi
  have:=Zkn ps 0 i hi
  exact⟨by simpa using this.2.1,by simpa using this.2.2⟩
 have:=Zot x y x.length limit hn (x.length+1- 0) 0 #[] 0 (pos y.length 0 ps) (Zi8 _ _ _) (fun i hi=>by
  have:=(hA i hi).1
  omega) hA (fun i _ _ z=>by
  rw[Zhz,e]at z
  have:=Zou ps 0 i h (Nat.zero_le _) (by simpa using z)
  rwa [Zr]at this)
 simpa using this
theorem Zlr(x y:Str)(hn:1≤y.length)(hk:Builtin.Str.strKind y=1)(ps:List (List Nat))(h:Fits y.cps.toList ps)(e:x.cps.toList=jl y.cps.toList ps):Txt.split x y=ps.map S:=by
 have hP:occurrences x y 0 x.length (x.length+1)=pos y.length 0 ps:=by
  have h1:=Zf8 x y hn ps h e (x.length+1)
  have h2:=Zf8 x y hn ps h e ((x.length+1)+(pos y.length 0 ps).length)
  rw[List.take_of_length_le (Nat.le_add_left _ _)]at h2
  have h3:=occ_length_le_len x y 0 x.length ((x.length+1)+(pos y.length 0 ps).length)
  rw[h2]at h3
  rw[h1,List.take_of_length_le (by omega)]
 have h0:ps≠[]:=fun z=>by rw[z]at h;exact h
 have one:pos y.length 0 ps=[]→[x]=ps.map S:=fun z=>by
  rcases Zi9 z with z|⟨p,z⟩
  ·exact absurd z h0
  ·rw[z]at e⊢
   rw[S_of x,e];rfl
 unfold Txt.split
 by_cases hs:(decide (x.length<y.length)||decide (Builtin.Str.strKind x<Builtin.Str.strKind y))=true
 ·rw[if_pos hs]
  have hlt:x.length<y.length:=by
   rw[hk]at hs
   have:=Zf6 x
   rcases Bool.or_eq_true_iff.mp hs with z|z
   ·exact of_decide_eq_true z
   ·have:=of_decide_eq_true z;omega
  refine one ?_
  cases hq:pos y.length 0 ps with
  |nil=>rfl
  |cons i r=>
   have hi:i∈pos y.length 0 ps:=by rw[hq];exact List.mem_cons_self
   rw[←Zr y]at hi
   have:=(Zkn ps 0 i hi).2.1
   rw[←e,Zr,Zr]at this
   omega
 ·rw[if_neg hs,hP]
  by_cases he:(pos y.length 0 ps).isEmpty=true
  ·rw[if_pos he]
   exact one (List.isEmpty_iff.mp he)
  ·rw[if_neg he,partsBetween_eq]
   have z:=Zdr (y:=y.cps.toList) x ps 0 h0 (by rw[List.drop_zero];exact e) (Nat.zero_le _)
   rw[Zr]at z
   exact z
theorem Zza(y p:List Nat)(q:List Nat)(r:List (List Nat)):jl y (p::q::r)=p++y++jl y (q::r):=rfl
theorem Zov{y:List Nat}{c:Nat}{y':List Nat}(ey:y=c::y')(p:List Nat)(hp:c∉p)(q:List Nat)(r:List (List Nat))(h:Fits y (q::r)):Fits y (p::q::r):=by
 refine⟨fun i hi s=>?_,h⟩
 have z:=congrArg List.head? s.2
 rw[ey,List.head?_cons]at z
 rw[←ey,List.append_assoc,List.head?_take,List.head?_drop,List.getElem?_append_left hi]at z
 rw[if_neg (by rw[ey];simp)]at z
 exact hp (List.mem_of_getElem? z)
theorem Zq8{y:List Nat}{c:Nat}(hc:c∈y)(p:List Nat)(hp:c∉p):Fits y [p]:=fun i s=>by
 have:c∈(p.drop i).take y.length:=by rw[s.2];exact hc
 exact hp (List.mem_of_mem_drop (List.mem_of_mem_take this))
theorem Zdd{c:Nat}:∀ps:List (List Nat),ps≠[]→(∀p∈ps,c∉p)→Fits [c] ps
 | [],h,_=>(h rfl).elim
 | [p],_,h=>Zq8 (c:=c) (by simp) p (h p List.mem_cons_self)
 |p::q::r,_,h=>Zov (c:=c) rfl p (h p List.mem_cons_self) q r (Zdd (q::r) (by simp) fun x hx=>h x (List.mem_cons_of_mem _ hx))
end My
namespace My
open DL PySem PySem.Spec PyProof.Rows L2
noncomputable def ev{α:Type}:List α→List α
 | []=>[]
 | [a]=>[a]
 |a::_::r=>a::ev r
theorem Zjc{α:Type}:∀(m:Nat) (xs:List α),xs.length≤2*m→((List.range m).map fun k=>2*k).filterMap (xs[·]?)=ev xs
 |0,xs,h=>by
  have:xs=[]:=List.eq_nil_of_length_eq_zero (by omega)
  subst this;rfl
 |m+1,xs,h=>by
  rw[List.range_succ_eq_map,List.map_cons,List.map_map]
  match xs,h with
  | [],_=>simp[ev]
  | [a],_=>
   show a::List.filterMap (fun x=>[a][x]?) (List.map ((fun k=>2*k)∘Nat.succ) (List.range m))=_
   have:List.filterMap (fun x=>[a][x]?) (List.map ((fun k=>2*k)∘Nat.succ) (List.range m))=[]:=by
    rw[List.filterMap_eq_nil_iff]
    intro x hx
    obtain⟨k,_,rfl⟩:=List.mem_map.mp hx
    show[a][2*(k+1)]? =none
    rw[List.getElem?_eq_none_iff];simp;omega
   rw[this];rfl
  |a::b::r,h=>
   show a::List.filterMap (fun x=>(a::b::r)[x]?) (List.map ((fun k=>2*k)∘Nat.succ) (List.range m))=_
   have ih:=Zjc m r (by simp at h;omega)
   have:List.filterMap (fun x=>(a::b::r)[x]?) (List.map ((fun k=>2*k)∘Nat.succ) (List.range m))=ev r:=by
    rw[←ih,List.filterMap_map,List.filterMap_map]
    congr 1
   rw[this];rfl
theorem Zq9{α:Type}(xs:List α):Zb2 xs none none (some 2)=ev xs:=by
 unfold Zb2
 have e1:(sliceBounds none none (some 2) xs.length)=(0,(xs.length:Int),2):=rfl
 rw[e1]
 dsimp only
 have e2:sliceRange 0 (xs.length:Int) 2=(List.range ((xs.length+1) / 2)).map fun k=>2*k:=by
  unfold sliceRange
  rw[if_pos (by decide)]
  by_cases h:xs.length=0
  ·rw[h];rfl
  ·rw[if_pos (by omega)]
   dsimp only
   rw[show(((xs.length:Int)- 0+2- 1) / 2).toNat=(xs.length+1) / 2 by omega]
   refine List.map_congr_left fun k _=>?_
   omega
 rw[e2]
 exact Zjc _ xs (by omega)
theorem Zkt{α β:Type}(f g:α→β):∀xs:List α,ev (xs.flatMap fun x=>[f x,g x])=xs.map f
 | []=>rfl
 |x::xs=>by
  show f x::ev (xs.flatMap fun x=>[f x,g x])=_
  rw[Zkt f g xs];rfl
theorem Zow{α β:Type}(f g:α→β)(b:β):∀xs:List α,ev (b::xs.flatMap fun x=>[f x,g x])=b::xs.map g
 | []=>rfl
 |x::xs=>by
  show b::ev (g x::xs.flatMap fun x=>[f x,g x])=_
  rw[Zow f g (g x) xs];rfl
end My
noncomputable section
local macro_rules| `(tactic|trivial)=> `(tactic|first|exact Or.inl rfl|exact Or.inr (Or.inl rfl)|exact Or.inr (Or.inr rfl)|exact Or.inr rfl)
namespace Gen
open PySem PySem.Spec PyProof.Rows L2 DL
noncomputable def top(i:Nat):Stmt:=PySem.Challenge.pw_citeward_k51_lists_read.main.body.getD i (.Pass ⟨0,0,0,0⟩)
noncomputable abbrev FUEL:Nat:=1000
noncomputable abbrev Zb5:Stmt:=top 22
noncomputable abbrev Zb6:Stmt:=top 9
noncomputable abbrev Zes:Stmt:=top 13
noncomputable abbrev Zbs:Stmt:=top 10
noncomputable abbrev Zde:Stmt:=top 11
noncomputable abbrev Zcn:Stmt:=top 12
noncomputable abbrev Zdf:Stmt:=top 18
noncomputable abbrev Zbt:Stmt:=top 17
noncomputable abbrev Zco:Stmt:=top 16
noncomputable abbrev Zb7:Stmt:=top 15
noncomputable abbrev Zb8:Stmt:=top 21
noncomputable abbrev Zbd:Stmt:=top 20
noncomputable abbrev Zb9:Stmt:=top 23
noncomputable abbrev Zdg:Stmt:=top 24
noncomputable abbrev Zc3:Stmt:=top 25
noncomputable def Z4:FS:=
 seqF (setF 9 (binF mulZ (Zd 6) (Zda intD (Zc (binF eqY (Zd 8) (Zd 4)) Zi)))) (setF 7 (binF addD (Zd 7) (binF ixX (Zd 2) (binF modD (binF addD (binF Zfs (Zd 0) (binF addD (Zd 8) (Za (.int 2)))) (Zd 9)) (Za (.int 22))))))
noncomputable def Za1:FS:=
 seqF (setF 7 (Za (.str ""))) (seqF (forF (rngI (Zc (Zd 3) Zi)) (Zq 8) Z4) (appF 5 (Zd 7)))
noncomputable def Zcp:FS:=
 seqF (setF 2 (Za (.str "abcdefghjlmpqrstuvwxyz"))) (seqF (setF 3 (binF addD (Za (.int 1)) (binF modD (Zd 0) (Za (.int 8))))) (seqF (setF 4 (binF modD (binF Zfs (Zd 0) (Za (.int 8))) (Zd 3))) (seqF (setF 5 (lstF (Zs))) (seqF (forF (rngI (Zc (Zd 1) Zi)) (Zq 6) Za1) (retF (Zd 5))))))
noncomputable def Z1:List D→Option SV:=Zb1 Zcp 10
noncomputable def Zbu:FE:=
 binF inZ (Zd 0) (Zd 1)
noncomputable def Zcq:FS:=
 retF (Zda allD (Zc (Zta [.own,.cap 1,.acc] 2 (anyI (Zd 0)) (Zq 0) (Zp1) Zbu) Zi))
noncomputable def Zaj:List D→Option SV:=Zb1 Zcq 2
noncomputable def Za4:FS:=
 seqF (setF 5 (bmF "str" Zbe (Zd 4) (Zc (Za (.str ">")) Zi))) (seqF (ifS (Zai (binF eqY (binF ixX (Zd 5) (Za (.int 1))) (Za (.str "")))) (retF (Za .non)) (Zfq)) (extF 3 (lstF (Zh (binF ixX (Zd 5) (Za (.int 0))) (Zh (binF ixX (Zd 5) (Za (.int 2))) (Zs))))))
noncomputable def Zf9:FS:=
 seqF (setF 2 (bmF "str" Zha (Zd 0) (Zc (Za (.str "<")) Zi))) (seqF (setF 3 (lstF (Zh (binF ixX (Zd 2) (Za (.int 0))) (Zs)))) (seqF (forF (anyI (slF slD (Zd 2) (Zg3 (Za (.int 1))) (Ze8))) (Zq 4) Za4) (retF (ifF (Zai (Zau 2 Zaj (Zc (bmF "str" Zhe (Za (.str "")) (Zc (slF3 slD3 (Zd 3) (Ze8) (Ze8) (Zg3 (Za (.int 2)))) Zi)) (Zc (Zd 1) (Zi))))) (Zd 3) (Za .non)))))
noncomputable def Zc4:List D→Option SV:=Zb1 Zf9 6
noncomputable def Zca:FS:=
 seqF (ifS (notF (Zai (unF (isiD "str") (Zd 0)))) (retF (Za (.bl false))) (Zfq)) (retF (andV (Zm4 leD leD (Za (.int 1)) (Zda Zln (Zc (Zd 0) Zi)) (Zd 2)) (Zau 2 Zaj (Zc (Zd 0) (Zc (Zd 1) (Zi))))))
noncomputable def Zaa:List D→Option SV:=Zb1 Zca 3
noncomputable def Zet:FS:=
 retF (Zau 3 Zaa (Zc (Zd 0) (Zc (Za (.str "abcdefghijklmnopqrstuvwxyz")) (Zc (Za (.int 8)) (Zi)))))
noncomputable def Zav:List D→Option SV:=Zb1 Zet 1
noncomputable def Zdh : FS :=
  retF (Zau 3 Zaa (Zc (Zd 0) (Zc (Za (.str "ABCDEFGHIJKLMNOPQRSTUVWXYZabcdefghijklmnopqrstuvwxyz0123456789 .,!?'-/()&+*=")) (Zc (Za (.int 80)) (Zi)))))
noncomputable def Zbh:List D→Option SV:=Zb1 Zdh 1
noncomputable def Zeu:FS:=
 retF (andV (Zau 1 Zav (Zc (Zd 0) (Zi))) (andV (binF Zkb (Zd 0) (tupF (Zke ["note","kind"] (Zs)))) (Zau 1 Zbh (Zc (Zd 1) (Zi)))))
noncomputable def Zcb:List D→Option SV:=Zb1 Zeu 2
noncomputable def Zw:FS:=
 seqF (setF 3 (bmF "str" Zbe (Zd 2) (Zc (Za (.str "=")) Zi))) (seqF (ifS (orF (notF (Zai (Zau 2 Zcb (Zc (binF ixX (Zd 3) (Za (.int 0))) (Zc (binF ixX (Zd 3) (Za (.int 2))) (Zi)))))) (Zai (binF neY (bmDF "dict" Zhg (Zd 1) (Zh (binF ixX (Zd 3) (Za (.int 0))) (Zh (binF ixX (Zd 3) (Za (.int 2))) (Zs)))) (binF ixX (Zd 3) (Za (.int 2)))))) (retF (Za .non)) (Zfq)) (putF 1 (binF ixX (Zd 3) (Za (.int 0))) (binF ixX (Zd 3) (Za (.int 2)))))
noncomputable def Zcc:FS:=
 seqF (setF 1 (Zi3)) (seqF (forF (anyI (Zd 0)) (Zq 2) Zw) (retF (Zd 1)))
noncomputable def Zaw:List D→Option SV:=Zb1 Zcc 4
noncomputable def Zdi : FS :=
  seqF (ifS (orF (Zai (binF ltD (Zda Zln (Zc (Zd 0) Zi)) (Za (.int 3)))) (orF (notF (Zai (Zau 1 Zav (Zc (binF ixX (Zd 0) (Za (.int 0))) (Zi))))) (notF (Zai (Zau 1 Zav (Zc (binF ixX (Zd 0) (Za (.int 1))) (Zi))))))) (retF (Za .non)) (Zfq)) (seqF (setF 1 (Zau 2 Zc4 (Zc (binF ixX (Zd 0) (Za (.int 2))) (Zc (Za (.str "ABCDEFGHIJKLMNOPQRSTUVWXYZabcdefghijklmnopqrstuvwxyz0123456789 .,!?'-/()&+*=:;")) (Zi))))) (retF (ifF (Zai (binF isND (Zd 1) (Za .non))) (Za .non) (Zau 1 Zaw (Zc (slF3 slD3 (Zd 1) (Zg3 (Za (.int 1))) (Ze8) (Zg3 (Za (.int 2)))) (Zi))))))
noncomputable def Zbi:List D→Option SV:=Zb1 Zdi 2
noncomputable def Zap:FS:=
 seqF (setF 5 (bmF "str" Zf4 (Zd 4) (Zc (Za (.str " ")) (Zc (Za (.int 2)) Zi)))) (seqF (setF 6 (Zau 1 Zbi (Zc (Zd 5) (Zi)))) (seqF (ifS (orF (Zai (binF isND (Zd 6) (Za .non))) (Zai (binF inZ (binF ixX (Zd 5) (Za (.int 0))) (Zd 1)))) (Zni) (Zfq)) (putF 1 (binF ixX (Zd 5) (Za (.int 0))) (tupF (Zh (binF ixX (Zd 5) (Za (.int 1))) (Zh (Zd 6) (Zs)))))))
noncomputable def Zcr:FS:=
 seqF (ifS (notF (Zai (unF (isiD "str") (Zd 0)))) (Zni) (Zfq)) (seqF (setF 1 (Zi3)) (seqF (setF 2 (ifF (Zai (binF eqY (Zd 0) (Za (.str "")))) (lstF (Zs)) (bmF "str" Zha (Zd 0) (Zc (Za (.str "\n")) Zi)))) (seqF (forF (Zoi (Zh (Zd 2) Zs)) (Zdm 2 (Zao (Zq 3) (Zao (Zq 4) (Zd5)))) Zap) (retF (Zd 1)))))
noncomputable def Z2:List D→Option SV:=Zb1 Zcr 7
noncomputable def Zcs:FS:=
 retF (binF modD (binF mulZ (binF modD (Zd 0) (Za (.int 2147483647))) (Zd 1)) (Za (.int 2147483647)))
noncomputable def Zab:List D→Option SV:=Zb1 Zcs 2
noncomputable def Zbv:FS:=
 seqF (ifS (Zai (binF ltD (Zd 1) (Zda Zln (Zc (Zd 0) Zi)))) (retF (binF ixX (Zd 0) (Zd 1))) (Zfq)) (retF (Za (.int 0)))
noncomputable def Zae:List D→Option SV:=Zb1 Zbv 2
noncomputable def Za2:FS:=
 seqF (setF 0 (binF modD (binF addD (binF mulZ (Zd 0) (Za (.int 69621))) (Za (.int 7))) (Za (.int 2147483629)))) (setF 2 (binF addD (Zd 2) (binF ixX (Zd 1) (binF modD (Zd 0) (Za (.int 76))))))
noncomputable def Zct : FS :=
  seqF (setF 1 (Za (.str "ABCDEFGHIJKLMNOPQRSTUVWXYZabcdefghijklmnopqrstuvwxyz0123456789 .,!?'-/()&+*="))) (seqF (setF 2 (Za (.str ""))) (seqF (forF (rngI (Zc (binF ixX (lstF (Zh (binF addD (Za (.int 1)) (binF modD (Zd 0) (Za (.int 8)))) (Zh (Za (.int 1)) (Zh (binF addD (Za (.int 1)) (binF modD (Zd 0) (Za (.int 80)))) (Zh (binF addD (Za (.int 1)) (binF modD (Zd 0) (Za (.int 5)))) (Zh (Za (.int 80)) (Zs))))))) (binF modD (binF Zfs (Zd 0) (Za (.int 64))) (Za (.int 5)))) Zi)) (Zq 3) Za2) (retF (Zd 2))))
noncomputable def Za6:List D→Option SV:=Zb1 Zct 4
noncomputable def Zar:FS:=
 seqF (setF 0 (binF modD (binF addD (binF mulZ (Zd 0) (Za (.int 48271))) (Za (.int 11))) (Za (.int 2147483647)))) (ifS (Zai (binF eqY (binF modD (binF Zfs (Zd 0) (Za (.int 8))) (Za (.int 4))) (Za (.int 0)))) (setF 3 (binF addD (Zd 3) (binF ixX (lstF (Zke ["",": ","; ("," = A. B & 9/0?!+*'-,"," "] (Zs))) (binF modD (binF Zfs (Zd 0) (Za (.int 32))) (Za (.int 5)))))) (seqF (setF 5 (binF ixX (Zd 1) (binF modD (binF Zfs (Zd 0) (Za (.int 32))) (Za (.int 4))))) (seqF (putF 2 (Zd 5) (bmDF "dict" Zhg (Zd 2) (Zh (Zd 5) (Zh (Zau 1 Za6 (Zc (binF Zfs (Zd 0) (Za (.int 128))) (Zi))) (Zs))))) (setF 3 (binF addD (binF addD (binF addD (binF addD (binF addD (Zd 3) (Za (.str "<"))) (Zd 5)) (Za (.str "="))) (binF ixX (Zd 2) (Zd 5))) (Za (.str ">")))))))
noncomputable def Zev:List FS:=
 [setF 3 (Za (.str "")),forF (rngI (Zc (binF addD (Za (.int 1)) (binF modD (Zd 0) (Za (.int 5)))) Zi)) (Zq 4) Zar]
noncomputable def Zew:FE:=
 Zd 3
noncomputable def Zbj:UG:=outU Zev Zew 6
noncomputable def Zex:FS:=
 seqF (setF 7 (Zau 2 Zab (Zc (binF addD (Zd 6) (Zd 5)) (Zc (Za (.int 48271)) (Zi))))) (seqF (setF 8 (Zi3)) (seqF (setF 9 (binF ixX (Zau 2 Z1 (Zc (Zau 2 Zab (Zc (Zd 6) (Zc (Za (.int 16807)) (Zi)))) (Zc (Za (.int 1)) (Zi)))) (Za (.int 0)))) (seqF (Zq0 3 (Zug addD (binF addD (binF addD (binF addD (binF ixX (Zd 2) (Zd 5)) (Za (.str " "))) (Zd 9)) (Za (.str " "))) (Zen 8 2 Zbj (Zh (Zd 7) (Zh (Zd 1) (Zs)))))) (putF 4 (binF ixX (Zd 2) (Zd 5)) (tupF (Zh (Zd 9) (Zh (Zd 8) (Zs))))))))
noncomputable def Zga:FT:=
 orF (notF (Zai (unF (isiD "dict") (Zd 11)))) (Zai (binF neY (Zd 11) (Zd 4)))
noncomputable def Zgb:FT:=
 orF (notF (Zai (unF (isiD "tuple") (binF ixX (Zd 11) (Zd 12))))) (notF (Zai (unF (isiD "dict") (binF ixX (binF ixX (Zd 11) (Zd 12)) (Za (.int 1))))))
noncomputable def Zup:FS:=
 seqF (setF 1 (binF addD (Zau 2 Z1 (Zc (Zau 2 Zab (Zc (Zau 2 Zae (Zc (Zd 0) (Zc (Za (.int 0)) (Zi)))) (Zc (Za (.int 16807)) (Zi)))) (Zc (Za (.int 3)) (Zi)))) (lstF (Zh (Za (.str "in")) (Zs))))) (seqF (setF 2 (Zau 2 Z1 (Zc (Zau 2 Zab (Zc (Zau 2 Zae (Zc (Zd 0) (Zc (Za (.int 0)) (Zi)))) (Zc (Za (.int 39373)) (Zi)))) (Zc (Za (.int 12)) (Zi))))) (seqF (setF 3 (lstF (Zs))) (seqF (setF 4 (Zi3)) (seqF (forF (Znp (Zh (slF slD (Zd 0) (Zg3 (Za (.int 1))) (Zg3 (Za (.int 13)))) Zs)) (Zdm 2 (Zao (Zq 5) (Zao (Zq 6) (Zd5)))) Zex) (seqF (setF 10 (bmF "str" Zhe (Za (.str "\n")) (Zc (Zd 3) Zi))) (seqF (Zi6 11 12 1 Z2 (Zh (Zd 10) (Zs)) Zga (Zd 4) Zgb) (retF (andV (binF eqY (Zau 1 Z2 (Zc (Zd 10) (Zi))) (Zd 4)) (binF eqY (Zau 1 Z2 (Zc (Za (.str "")) (Zi))) (Zi3))))))))))
noncomputable def Zgc:List D→Option SV:=Zb1 Zup 13
end Gen
namespace Gen
open PySem PySem.Spec PyProof.Rows L2 DL
structure Txt (K : PySem.W.Frag) (mg : Str → Option Value) (tx0 : Tok) (tx1 : Tok) (tx2 : Tok) (tx3 : Tok) (tx4 : Tok) (fx0 fx1 fx2 fx3 fx4 fx5 fx6 fx7 fx8 fx9 fx10 fx11 fx12 fx13 fx14 : Addr) : Prop where
  z_all : mg "all" = none
  z_dict : mg "dict" = none
  z_enumerate : mg "enumerate" = none
  z_int : mg "int" = none
  z_isinstance : mg "isinstance" = none
  z_len : mg "len" = none
  z_range : mg "range" = none
  z_str : mg "str" = none
  z_tuple : mg "tuple" = none
  c_NAME_LENGTH : mg "NAME_LENGTH" = some (.int 8 tx0)
  c_PLAIN_LENGTH : mg "PLAIN_LENGTH" = some (.int 80 tx1)
  c_PLAIN_SIGNS : mg "PLAIN_SIGNS" = some (.str "ABCDEFGHIJKLMNOPQRSTUVWXYZabcdefghijklmnopqrstuvwxyz0123456789 .,!?'-/()&+*=" tx2)
  c_SMALL_LETTERS : mg "SMALL_LETTERS" = some (.str "abcdefghijklmnopqrstuvwxyz" tx3)
  c_STYLE_SIGNS : mg "STYLE_SIGNS" = some (.str "ABCDEFGHIJKLMNOPQRSTUVWXYZabcdefghijklmnopqrstuvwxyz0123456789 .,!?'-/()&+*=:;" tx4)
  m_0 : mg "_law_names" = some (.ref fx0)
  k_0 : PySem.W.keepIn K (.ref fx0) = true
  m_1 : mg "is_all_of" = some (.ref fx1)
  k_1 : PySem.W.keepIn K (.ref fx1) = true
  m_2 : mg "angled" = some (.ref fx2)
  k_2 : PySem.W.keepIn K (.ref fx2) = true
  m_3 : mg "is_text_of" = some (.ref fx3)
  k_3 : PySem.W.keepIn K (.ref fx3) = true
  m_4 : mg "is_name" = some (.ref fx4)
  k_4 : PySem.W.keepIn K (.ref fx4) = true
  m_5 : mg "is_plain" = some (.ref fx5)
  k_5 : PySem.W.keepIn K (.ref fx5) = true
  m_6 : mg "is_mark" = some (.ref fx6)
  k_6 : PySem.W.keepIn K (.ref fx6) = true
  m_7 : mg "read_marks" = some (.ref fx7)
  k_7 : PySem.W.keepIn K (.ref fx7) = true
  m_8 : mg "read_row" = some (.ref fx8)
  k_8 : PySem.W.keepIn K (.ref fx8) = true
  m_9 : mg "read_list" = some (.ref fx9)
  k_9 : PySem.W.keepIn K (.ref fx9) = true
  m_10 : mg "_law_mixed" = some (.ref fx10)
  k_10 : PySem.W.keepIn K (.ref fx10) = true
  m_11 : mg "_law_cell_at" = some (.ref fx11)
  k_11 : PySem.W.keepIn K (.ref fx11) = true
  m_12 : mg "_law_plain" = some (.ref fx12)
  k_12 : PySem.W.keepIn K (.ref fx12) = true
  m_13 : mg "_law_row" = some (.ref fx13)
  k_13 : PySem.W.keepIn K (.ref fx13) = true
  m_14 : mg "law" = some (.ref fx14)
  k_14 : PySem.W.keepIn K (.ref fx14) = true
section
variable{P:Program}{w:World}{K:PySem.W.Frag}{mg:Str→Option Value}{base:Heap}{tx0:Tok}{tx1:Tok}{tx2:Tok}{tx3:Tok}{tx4:Tok}{fx0 fx1 fx2 fx3 fx4 fx5 fx6 fx7 fx8 fx9 fx10 fx11 fx12 fx13 fx14:Addr}
theorem Zx:FnScope ["_law_number","_law_many","_law_letters","_law_size","_law_at","_law_names_here","_law_turn","_law_name","_law_k","_law_step"] ["_law_number","_law_many"] (Zg Zb5):=⟨rfl,rfl,rfl,by decide+kernel,rfl,by decide+kernel,by decide+kernel⟩
theorem Zh0:FnScope ["text","signs"] ["text","signs"] (Zg Zb6):=⟨rfl,rfl,rfl,by decide+kernel,rfl,by decide+kernel,by decide+kernel⟩
theorem Zcd:FnScope ["text","signs","runs","cuts","run","halves"] ["text","signs"] (Zg Zes):=⟨rfl,rfl,rfl,by decide+kernel,rfl,by decide+kernel,by decide+kernel⟩
theorem Zgd:FnScope ["value","signs","most"] ["value","signs","most"] (Zg Zbs):=⟨rfl,rfl,rfl,by decide+kernel,rfl,by decide+kernel,by decide+kernel⟩
theorem Zls:FnScope ["value"] ["value"] (Zg Zde):=⟨rfl,rfl,rfl,by decide+kernel,rfl,by decide+kernel,by decide+kernel⟩
theorem Zjd:FnScope ["value"] ["value"] (Zg Zcn):=⟨rfl,rfl,rfl,by decide+kernel,rfl,by decide+kernel,by decide+kernel⟩
theorem Zlt:FnScope ["name","text"] ["name","text"] (Zg Zdf):=⟨rfl,rfl,rfl,by decide+kernel,rfl,by decide+kernel,by decide+kernel⟩
theorem Za3:FnScope ["marks","fields","mark","halves"] ["marks"] (Zg Zbt):=⟨rfl,rfl,rfl,by decide+kernel,rfl,by decide+kernel,by decide+kernel⟩
theorem Zey:FnScope ["words","cuts"] ["words"] (Zg Zco):=⟨rfl,rfl,rfl,by decide+kernel,rfl,by decide+kernel,by decide+kernel⟩
theorem Zac:FnScope ["text","shelf","rows","number","row","words","fields"] ["text"] (Zg Zb7):=⟨rfl,rfl,rfl,by decide+kernel,rfl,by decide+kernel,by decide+kernel⟩
theorem Zh1:FnScope ["_law_cell","_law_by"] ["_law_cell","_law_by"] (Zg Zb8):=⟨rfl,rfl,rfl,by decide+kernel,rfl,by decide+kernel,by decide+kernel⟩
theorem Ze3:FnScope ["_law_script","_law_k"] ["_law_script","_law_k"] (Zg Zbd):=⟨rfl,rfl,rfl,by decide+kernel,rfl,by decide+kernel,by decide+kernel⟩
theorem Zal:FnScope ["_law_number","_law_signs","_law_text","_law_k"] ["_law_number"] (Zg Zb9):=⟨rfl,rfl,rfl,by decide+kernel,rfl,by decide+kernel,by decide+kernel⟩
theorem Zas:FnScope ["_law_number","_law_fields","_law_own","_law_text","_law_k","_law_name"] ["_law_number","_law_fields","_law_own"] (Zg Zdg):=⟨rfl,rfl,rfl,by decide+kernel,rfl,by decide+kernel,by decide+kernel⟩
theorem Zbk:FnScope ["_law_script","_law_fields","_law_keys","_law_rows","_law_due","_law_k","_law_cell","_law_number","_law_own","_law_kind","_law_text","_law_found","_law_key"] ["_law_script"] (Zg Zc3):=⟨rfl,rfl,rfl,by decide+kernel,rfl,by decide+kernel,by decide+kernel⟩
theorem okB{x qual:Str}{st:Stmt}{f:Addr}{fd:FuncData}{N ps:List Str}{k n:Nat}(F:Fun K x qual st f fd)(S:FnScope N ps (Zg st))(hn:n=ps.length)(f0:FS)(hb:∀(cdv:Value) (A:Around) (outer:List Env) (s:Shared) (H F0:Hp) (E:XK),Room k (A.deeper (envOfC qual (Zg st) s.heap.objs.size f cdv))→(A.deeper (envOfC qual (Zg st) s.heap.objs.size f cdv)).units+1<cLine→(A.deeper (envOfC qual (Zg st) s.heap.objs.size f cdv)).units+64<cLine→PSs (cxOf CX0 P w K mg base N qual (Zg st) f cdv A outer s H E).nox (Zbm st) (Zy (ent H F0:Ent K) f0)):FnOk P w K mg base CX0 (k+1) f fd ps (spOf K n (Zb1 f0 N.length)):=
 F.ok S (fun _ _ _ _ h=>(Zp0 h).trans hn) fun cdv A outer s H vs Q E hr h=>by
  obtain⟨F0,h⟩:=Zqb (N:=N) (f:=f0) h
  exact⟨_,hb cdv A outer s H F0 E hr (Zwa hr) hr.units,h⟩
theorem okBU{x qual:Str}{st:Stmt}{f:Addr}{fd:FuncData}{N ps:List Str}{k n:Nat}(F:Fun K x qual st f fd)(S:FnScope N ps (Zg st))(hn:n+1=ps.length)(fs0:List FS)(fe0:FE)(hb:∀(cdv:Value) (A:Around) (outer:List Env) (s:Shared) (H G0 F0:Hp) (E:XK),Room k (A.deeper (envOfC qual (Zg st) s.heap.objs.size f cdv))→(A.deeper (envOfC qual (Zg st) s.heap.objs.size f cdv)).units+1<cLine→(A.deeper (envOfC qual (Zg st) s.heap.objs.size f cdv)).units+64<cLine→PSs (cxOf CX0 P w K mg base N qual (Zg st) f cdv A outer s H E).nox (Zbm st) (Zqz (ent G0 F0:Ent K) fs0 (tRet (Zb (ent G0 F0:Ent K) fe0))))(hN:n<N.length:=by decide):FnOk P w K mg base CX0 (k+1) f fd ps (spU K n (outU fs0 fe0 N.length)):=
 F.ok S (fun _ _ _ _ h=>(Zue h).trans hn) fun cdv A outer s H vs Q E hr h=>by
  obtain⟨G0,F0,h⟩:=Zon (N:=N) (fs:=fs0) (fe:=fe0) hN h
  exact⟨_,hb cdv A outer s H G0 F0 E hr (Zwa hr) hr.units,h⟩
variable(T:Txt K mg tx0 tx1 tx2 tx3 tx4 fx0 fx1 fx2 fx3 fx4 fx5 fx6 fx7 fx8 fx9 fx10 fx11 fx12 fx13 fx14)
include T
theorem Zh2{fd:FuncData}(F:Fun K "_law_names" "_law_names" Zb5 fx0 fd):
  FnOk P w K mg base CX0 1 fx0 fd ["_law_number","_law_many"] (spOf K 2 Z1):=by
 refine okB F Zx rfl Zcp fun _ _ _ _ _ _ _ hr hu hv=>?_
 exact(@Zf _ _ _ _ _ _ (@Zad _ _ _ _ _ 2 _ _ Zx.nd Zbb (by rfl) (by trivial) (by rfl) (by trivial)) (@Zf _ _ _ _ _ _ (@Zad _ _ _ _ _ 3 _ _ Zx.nd (@Za7 _ _ _ _ _ _ _ Zl (@Zcf _ _ _ _ _ _ _ (Ze 0) Zl)) (by rfl) (by trivial) (by rfl) (by trivial)) (@Zf _ _ _ _ _ _ (@Zad _ _ _ _ _ 4 _ _ Zx.nd (@Zcf _ _ _ _ _ _ _ (@Zea _ _ _ _ _ _ _ (Ze 0) Zl) (Ze 3)) (by rfl) (by trivial) (by rfl) (by trivial)) (@Zf _ _ _ _ _ _ (@Zad _ _ _ _ _ 5 _ _ Zx.nd (@Zg7 _ _ _ _ _ Zcg) (by rfl) (by trivial) (by rfl) (by trivial)) (@Zf _ _ _ _ _ _ (@Zg8 _ _ _ _ _ _ _ _ _ PassesOwn.never rfl (@Zqa _ _ _ _ _ _ _ T.z_range (Ze 1) (by rfl) (by rfl)) (@Zb0 _ _ _ 6 _ Zx.nd (by rfl) (by trivial) (by trivial)) (@Zf _ _ _ _ _ _ (@Zad _ _ _ _ _ 7 _ _ Zx.nd Zbb (by rfl) (by trivial) (by rfl) (by trivial)) (@Zf _ _ _ _ _ _ (@Zg8 _ _ _ _ _ _ _ _ _ PassesOwn.never rfl (@Zqa _ _ _ _ _ _ _ T.z_range (Ze 3) (by rfl) (by rfl)) (@Zb0 _ _ _ 8 _ Zx.nd (by rfl) (by trivial) (by trivial)) (@Zf _ _ _ _ _ _ (@Zad _ _ _ _ _ 9 _ _ Zx.nd (@Zkd _ _ _ _ _ _ _ (Ze 6) (@Zw2 _ _ _ _ _ _ T.z_int (@Ztz _ _ _ _ _ _ _ hv (Ze 8) (Ze 4)) (by rfl) (by rfl) (by rfl))) (by rfl) (by trivial) (by rfl) (by trivial)) (@Zt _ _ _ _ (@Zad _ _ _ _ _ 7 _ _ Zx.nd (@Za7 _ _ _ _ _ _ _ (Ze 7) (@Zam _ _ _ _ _ _ _ hu (Ze 2) (@Zcf _ _ _ _ _ _ _ (@Za7 _ _ _ _ _ _ _ (@Zea _ _ _ _ _ _ _ (Ze 0) (@Za7 _ _ _ _ _ _ _ (Ze 8) Zl)) (Ze 9)) Zl) (by intro _ _;rfl))) (by rfl) (by trivial) (by rfl) (by trivial)))) (by intro _;rfl)) (@Zt _ _ _ _ (@Zz8 _ _ _ _ _ 5 _ _ _ _ (Ze 7) (by rfl) (by trivial) (by decide) (by decide) (by rfl) (by rfl) (by rfl) (by rfl) (by rfl) (by rfl))))) (by intro _;rfl)) (@Zt _ _ _ _ (@Zbc _ _ _ _ _ (Ze 5))))))))
theorem Zh3{fd:FuncData}(F:Fun K "is_all_of" "is_all_of" Zb6 fx1 fd):
  FnOk P w K mg base CX0 1 fx1 fd ["text","signs"] (spOf K 2 Zaj):=by
 refine okB F Zh0 rfl Zcq fun _ _ _ _ _ _ _ hr hu hv=>?_
 exact(@Zt _ _ _ _ (@Zbc _ _ _ _ _ (@Z0a _ _ _ _ _ _ T.z_all (@Zw4 _ _ _ _ _ _ _ _ _ _ _ _ _ _ _ rfl (Znf (N':=["sign","signs",".acc"]) (src:=[.own,.cap 1,.acc]) (by rfl) (by rfl) (by rfl) (by rfl) (by rfl) (by rfl)) (Zz7 2 (by rfl) (by rfl)) (by decide) (@Ztp _ _ _ _ _ (Ze 0)) (fun _ _ _ _=>@xg _ _ _ (fun _=>(@Zb0 _ _ _ 0 _ (show(["sign","signs",".acc"]:List Str).Nodup by decide+kernel) (by rfl) (by trivial) (by trivial)))) (fun _ _ _ _=>xt0) (fun _ _ _ _=>@xe _ _ _ (fun _=>(@Z0w _ _ _ _ _ _ _ hu (Ze 0) (Ze 1) (by rfl)))) (by intro _;rfl)) (by rfl) (by rfl) (by rfl) (by rfl))))
theorem Zox{fd:FuncData}(F:Fun K "angled" "angled" Zes fx2 fd){dx1:FuncData}(Vx1:FnOk P w K mg base CX0 1 fx1 dx1 ["text","signs"] (spOf K 2 Zaj))(Wx1:Zax K dx1 ["text","signs"] []):
  FnOk P w K mg base CX0 2 fx2 fd ["text","signs"] (spOf K 2 Zc4):=by
 refine okB F Zcd rfl Zf9 fun _ _ _ _ _ _ _ hr hu hv=>?_
 exact(@Zf _ _ _ _ _ _ (@Zad _ _ _ _ _ 2 _ _ Zcd.nd (@Znn _ _ _ _ _ _ _ _ (Ze 0) Zbb (by rfl) (by rfl) (by rfl) (by rfl) (by rfl)) (by rfl) (by trivial) (by rfl) (by trivial)) (@Zf _ _ _ _ _ _ (@Zad _ _ _ _ _ 3 _ _ Zcd.nd (@Zg7 _ _ _ _ _ (@Zak _ _ _ _ _ _ (@Zam _ _ _ _ _ _ _ hu (Ze 2) Zl (by intro _ _;rfl)) Zcg (by rfl))) (by rfl) (by trivial) (by rfl) (by trivial)) (@Zf _ _ _ _ _ _ (@Zg8 _ _ _ _ _ _ _ _ _ PassesOwn.never rfl (@Ztp _ _ _ _ _ (@e_sl _ _ _ _ _ _ _ _ _ _ (Ze 2) (@Ze9 _ _ _ _ Zl) Zjx)) (@Zb0 _ _ _ 4 _ Zcd.nd (by rfl) (by trivial) (by trivial)) (@Zf _ _ _ _ _ _ (@Zad _ _ _ _ _ 5 _ _ Zcd.nd (@Zef _ _ _ _ _ _ _ _ (Ze 4) Zbb (by rfl) (by rfl) (by rfl) (by rfl) (by rfl)) (by rfl) (by trivial) (by rfl) (by trivial)) (@Zf _ _ _ _ _ _ (@s_if _ _ _ _ _ _ _ _ _ (@Zt0 _ _ _ _ _ _ _ hv (@Zam _ _ _ _ _ _ _ hu (Ze 5) Zl (by intro _ _;rfl)) Zbb) (@Zt _ _ _ _ (@Zbc _ _ _ _ _ Ziv)) Zeb) (@Zt _ _ _ _ (@Z0y _ _ _ _ _ 3 _ _ _ _ (@Zg7 _ _ _ _ _ (@Zak _ _ _ _ _ _ (@Zam _ _ _ _ _ _ _ hu (Ze 5) Zl (by intro _ _;rfl)) (@Zak _ _ _ _ _ _ (@Zam _ _ _ _ _ _ _ hu (Ze 5) Zl (by intro _ _;rfl)) Zcg (by rfl)) (by rfl))) (by rfl) (by trivial) (by decide) (by decide) (by rfl) (by rfl) (by rfl) (by rfl) (by rfl) (by rfl))))) (by intro _;rfl)) (@Zt _ _ _ _ (@Zbc _ _ _ _ _ (@e_if _ _ _ _ _ _ _ _ _ (@Zft _ _ _ _ (@Z6 _ _ _ _ _ _ _ _ _ _ _ _ _ _ Vx1 (hr.mono (by decide)) T.m_1 T.k_1 Wx1 (@Zj _ _ _ _ _ _ (@Znq _ _ _ _ _ _ _ _ Zbb (@Zxk _ _ _ _ _ _ _ _ _ _ _ _ (Ze 3) Zjx Zjx (@Ze9 _ _ _ _ Zl)) (by rfl) (by rfl) (by rfl) (by rfl) (by rfl)) (@Zj _ _ _ _ _ _ (Ze 1) Zag (by rfl)) (by rfl)) (by rfl) (by decide) (by rfl) (by rfl)) (by intro _;rfl)) (Ze 3) Ziv))))))
theorem Zge{fd:FuncData}(F:Fun K "is_text_of" "is_text_of" Zbs fx3 fd){dx1:FuncData}(Vx1:FnOk P w K mg base CX0 1 fx1 dx1 ["text","signs"] (spOf K 2 Zaj))(Wx1:Zax K dx1 ["text","signs"] []):
  FnOk P w K mg base CX0 2 fx3 fd ["value","signs","most"] (spOf K 3 Zaa):=by
 refine okB F Zgd rfl Zca fun _ _ _ _ _ _ _ hr hu hv=>?_
 exact(@Zf _ _ _ _ _ _ (@s_if _ _ _ _ _ _ _ _ _ (@Zg6 _ _ _ _ _ (@Zft _ _ _ _ (@Zne _ _ _ _ _ _ _ _ _ T.z_isinstance T.z_str boot_str (Zng _) (Ze 0) (by rfl) (by rfl) (by decide) (by decide) (by rfl) (by rfl) (by rfl)) (by intro _;rfl))) (@Zt _ _ _ _ (@Zbc _ _ _ _ _ e_bl)) Zeb) (@Zt _ _ _ _ (@Zbc _ _ _ _ _ (@Zp9 _ _ _ _ _ _ _ _ (@Ztl _ _ _ _ _ _ _ _ _ _ _ _ _ _ _ Zvs p_le Zvs p_le Zl (@Zoj _ _ _ _ _ _ T.z_len (Ze 0) (by rfl) (by rfl) (by rfl)) (Ze 2) (by with_unfolding_all rfl)) (@Zti _ _ _ _ _ _ (@Z6 _ _ _ _ _ _ _ _ _ _ _ _ _ _ Vx1 (hr.mono (by decide)) T.m_1 T.k_1 Wx1 (@Zj _ _ _ _ _ _ (Ze 0) (@Zj _ _ _ _ _ _ (Ze 1) Zag (by rfl)) (by rfl)) (by rfl) (by decide) (by rfl) (by rfl)))))))
theorem Zlu{fd:FuncData}(F:Fun K "is_name" "is_name" Zde fx4 fd){dx3:FuncData}(Vx3:FnOk P w K mg base CX0 2 fx3 dx3 ["value","signs","most"] (spOf K 3 Zaa))(Wx3:Zax K dx3 ["value","signs","most"] []):
  FnOk P w K mg base CX0 3 fx4 fd ["value"] (spOf K 1 Zav):=by
 refine okB F Zls rfl Zet fun _ _ _ _ _ _ _ hr hu hv=>?_
 exact(@Zt _ _ _ _ (@Zbc _ _ _ _ _ (@Z6 _ _ _ _ _ _ _ _ _ _ _ _ _ _ Vx3 (hr.mono (by decide)) T.m_3 T.k_3 Wx3 (@Zj _ _ _ _ _ _ (Ze 0) (@Zj _ _ _ _ _ _ (@Ziw _ _ _ _ _ _ T.c_SMALL_LETTERS (by rfl) (by decide)) (@Zj _ _ _ _ _ _ (@Zna _ _ _ _ _ _ T.c_NAME_LENGTH (by rfl) (by decide)) Zag (by rfl)) (by rfl)) (by rfl)) (by rfl) (by decide) (by rfl) (by rfl))))
theorem Zje{fd:FuncData}(F:Fun K "is_plain" "is_plain" Zcn fx5 fd){dx3:FuncData}(Vx3:FnOk P w K mg base CX0 2 fx3 dx3 ["value","signs","most"] (spOf K 3 Zaa))(Wx3:Zax K dx3 ["value","signs","most"] []):
  FnOk P w K mg base CX0 3 fx5 fd ["value"] (spOf K 1 Zbh):=by
 refine okB F Zjd rfl Zdh fun _ _ _ _ _ _ _ hr hu hv=>?_
 exact(@Zt _ _ _ _ (@Zbc _ _ _ _ _ (@Z6 _ _ _ _ _ _ _ _ _ _ _ _ _ _ Vx3 (hr.mono (by decide)) T.m_3 T.k_3 Wx3 (@Zj _ _ _ _ _ _ (Ze 0) (@Zj _ _ _ _ _ _ (@Ziw _ _ _ _ _ _ T.c_PLAIN_SIGNS (by rfl) (by decide)) (@Zj _ _ _ _ _ _ (@Zna _ _ _ _ _ _ T.c_PLAIN_LENGTH (by rfl) (by decide)) Zag (by rfl)) (by rfl)) (by rfl)) (by rfl) (by decide) (by rfl) (by rfl))))
theorem Zlv{fd:FuncData}(F:Fun K "is_mark" "is_mark" Zdf fx6 fd){dx4:FuncData}(Vx4:FnOk P w K mg base CX0 3 fx4 dx4 ["value"] (spOf K 1 Zav))(Wx4:Zax K dx4 ["value"] []){dx5:FuncData}(Vx5:FnOk P w K mg base CX0 3 fx5 dx5 ["value"] (spOf K 1 Zbh))(Wx5:Zax K dx5 ["value"] []):
  FnOk P w K mg base CX0 4 fx6 fd ["name","text"] (spOf K 2 Zcb):=by
 refine okB F Zlt rfl Zeu fun _ _ _ _ _ _ _ hr hu hv=>?_
 exact(@Zt _ _ _ _ (@Zbc _ _ _ _ _ (@Zp9 _ _ _ _ _ _ _ _ (@Z6 _ _ _ _ _ _ _ _ _ _ _ _ _ _ Vx4 (hr.mono (by decide)) T.m_4 T.k_4 Wx4 (@Zj _ _ _ _ _ _ (Ze 0) Zag (by rfl)) (by rfl) (by decide) (by rfl) (by rfl)) (@Zp9 _ _ _ _ _ _ _ _ (@Zqp _ _ _ _ _ _ _ hu (Ze 0) (@Ztj _ _ _ _ _ _ (@Zn7 _ _ _ _ [("note",_,_),("kind",_,_)] Zcg)) (by rfl)) (@Zti _ _ _ _ _ _ (@Z6 _ _ _ _ _ _ _ _ _ _ _ _ _ _ Vx5 (hr.mono (by decide)) T.m_5 T.k_5 Wx5 (@Zj _ _ _ _ _ _ (Ze 1) Zag (by rfl)) (by rfl) (by decide) (by rfl) (by rfl)))))))
theorem Zgf{fd:FuncData}(F:Fun K "read_marks" "read_marks" Zbt fx7 fd){dx6:FuncData}(Vx6:FnOk P w K mg base CX0 4 fx6 dx6 ["name","text"] (spOf K 2 Zcb))(Wx6:Zax K dx6 ["name","text"] []):
  FnOk P w K mg base CX0 5 fx7 fd ["marks"] (spOf K 1 Zaw):=by
 refine okB F Za3 rfl Zcc fun _ _ _ _ _ _ _ hr hu hv=>?_
 exact(@Zf _ _ _ _ _ _ (@Zad _ _ _ _ _ 1 _ _ Za3.nd Zei (by rfl) (by trivial) (by rfl) (by trivial)) (@Zf _ _ _ _ _ _ (@Zg8 _ _ _ _ _ _ _ _ _ PassesOwn.never rfl (@Ztp _ _ _ _ _ (Ze 0)) (@Zb0 _ _ _ 2 _ Za3.nd (by rfl) (by trivial) (by trivial)) (@Zf _ _ _ _ _ _ (@Zad _ _ _ _ _ 3 _ _ Za3.nd (@Zef _ _ _ _ _ _ _ _ (Ze 2) Zbb (by rfl) (by rfl) (by rfl) (by rfl) (by rfl)) (by rfl) (by trivial) (by rfl) (by trivial)) (@Zf _ _ _ _ _ _ (@s_if _ _ _ _ _ _ _ _ _ (@PW.pt _ _ _ (@w_or _ _ _ _ _ _ _ _ (@Zg6 _ _ _ _ _ (@Zft _ _ _ _ (@Z6 _ _ _ _ _ _ _ _ _ _ _ _ _ _ Vx6 (hr.mono (by decide)) T.m_6 T.k_6 Wx6 (@Zj _ _ _ _ _ _ (@Zam _ _ _ _ _ _ _ hu (Ze 3) Zl (by intro _ _;rfl)) (@Zj _ _ _ _ _ _ (@Zam _ _ _ _ _ _ _ hu (Ze 3) Zl (by intro _ _;rfl)) Zag (by rfl)) (by rfl)) (by rfl) (by decide) (by rfl) (by rfl)) (by intro _;rfl))) (@Znc _ _ _ _ _ (@Zxe _ _ _ _ _ _ _ hv (@Zr3 _ _ _ _ _ _ _ _ _ hu (Ze 1) (@Zak _ _ _ _ _ _ (@Zam _ _ _ _ _ _ _ hu (Ze 3) Zl (by intro _ _;rfl)) (@Zak _ _ _ _ _ _ (@Zam _ _ _ _ _ _ _ hu (Ze 3) Zl (by intro _ _;rfl)) Zcg (by rfl)) (by rfl)) (by rfl) (by rfl) (by rfl) (by rfl) (by rfl)) (@Zam _ _ _ _ _ _ _ hu (Ze 3) Zl (by intro _ _;rfl)))))) (@Zt _ _ _ _ (@Zbc _ _ _ _ _ Ziv)) Zeb) (@Zt _ _ _ _ (@Zqm _ _ _ _ _ _ _ 1 _ _ _ hu (@Zam _ _ _ _ _ _ _ hu (Ze 3) Zl (by intro _ _;rfl)) (@Zam _ _ _ _ _ _ _ hu (Ze 3) Zl (by intro _ _;rfl)) (by rfl) (by trivial) (by decide) (by decide) (by rfl))))) (by intro _;rfl)) (@Zt _ _ _ _ (@Zbc _ _ _ _ _ (Ze 1)))))
theorem Zjf{fd:FuncData}(F:Fun K "read_row" "read_row" Zco fx8 fd){dx2:FuncData}(Vx2:FnOk P w K mg base CX0 2 fx2 dx2 ["text","signs"] (spOf K 2 Zc4))(Wx2:Zax K dx2 ["text","signs"] []){dx4:FuncData}(Vx4:FnOk P w K mg base CX0 3 fx4 dx4 ["value"] (spOf K 1 Zav))(Wx4:Zax K dx4 ["value"] []){dx7:FuncData}(Vx7:FnOk P w K mg base CX0 5 fx7 dx7 ["marks"] (spOf K 1 Zaw))(Wx7:Zax K dx7 ["marks"] []):
  FnOk P w K mg base CX0 6 fx8 fd ["words"] (spOf K 1 Zbi):=by
 refine okB F Zey rfl Zdi fun _ _ _ _ _ _ _ hr hu hv=>?_
 exact(@Zf _ _ _ _ _ _ (@s_if _ _ _ _ _ _ _ _ _ (@PW.pt _ _ _ (@w_or _ _ _ _ _ _ _ _ (@t_lt _ _ _ _ _ _ _ (@Zoj _ _ _ _ _ _ T.z_len (Ze 0) (by rfl) (by rfl) (by rfl)) Zl) (@w_or _ _ _ _ _ _ _ _ (@Zg6 _ _ _ _ _ (@Zft _ _ _ _ (@Z6 _ _ _ _ _ _ _ _ _ _ _ _ _ _ Vx4 (hr.mono (by decide)) T.m_4 T.k_4 Wx4 (@Zj _ _ _ _ _ _ (@Zam _ _ _ _ _ _ _ hu (Ze 0) Zl (by intro _ _;rfl)) Zag (by rfl)) (by rfl) (by decide) (by rfl) (by rfl)) (by intro _;rfl))) (@Znc _ _ _ _ _ (@Zg6 _ _ _ _ _ (@Zft _ _ _ _ (@Z6 _ _ _ _ _ _ _ _ _ _ _ _ _ _ Vx4 (hr.mono (by decide)) T.m_4 T.k_4 Wx4 (@Zj _ _ _ _ _ _ (@Zam _ _ _ _ _ _ _ hu (Ze 0) Zl (by intro _ _;rfl)) Zag (by rfl)) (by rfl) (by decide) (by rfl) (by rfl)) (by intro _;rfl))))))) (@Zt _ _ _ _ (@Zbc _ _ _ _ _ Ziv)) Zeb) (@Zf _ _ _ _ _ _ (@Zad _ _ _ _ _ 1 _ _ Zey.nd (@Z6 _ _ _ _ _ _ _ _ _ _ _ _ _ _ Vx2 (hr.mono (by decide)) T.m_2 T.k_2 Wx2 (@Zj _ _ _ _ _ _ (@Zam _ _ _ _ _ _ _ hu (Ze 0) Zl (by intro _ _;rfl)) (@Zj _ _ _ _ _ _ (@Ziw _ _ _ _ _ _ T.c_STYLE_SIGNS (by rfl) (by decide)) Zag (by rfl)) (by rfl)) (by rfl) (by decide) (by rfl) (by rfl)) (by rfl) (by trivial) (by rfl) (by trivial)) (@Zt _ _ _ _ (@Zbc _ _ _ _ _ (@e_if _ _ _ _ _ _ _ _ _ (@Zw1 _ _ _ _ _ _ _ (Ze 1) Ziv) Ziv (@Z6 _ _ _ _ _ _ _ _ _ _ _ _ _ _ Vx7 (hr.mono (by decide)) T.m_7 T.k_7 Wx7 (@Zj _ _ _ _ _ _ (@Zxk _ _ _ _ _ _ _ _ _ _ _ _ (Ze 1) (@Ze9 _ _ _ _ Zl) Zjx (@Ze9 _ _ _ _ Zl)) Zag (by rfl)) (by rfl) (by decide) (by rfl) (by rfl)))))))
theorem Zh4{fd:FuncData}(F:Fun K "read_list" "read_list" Zb7 fx9 fd){dx8:FuncData}(Vx8:FnOk P w K mg base CX0 6 fx8 dx8 ["words"] (spOf K 1 Zbi))(Wx8:Zax K dx8 ["words"] []):
  FnOk P w K mg base CX0 7 fx9 fd ["text"] (spOf K 1 Z2):=by
 refine okB F Zac rfl Zcr fun _ _ _ _ _ _ _ hr hu hv=>?_
 exact(@Zf _ _ _ _ _ _ (@s_if _ _ _ _ _ _ _ _ _ (@Zg6 _ _ _ _ _ (@Zft _ _ _ _ (@Zne _ _ _ _ _ _ _ _ _ T.z_isinstance T.z_str boot_str (Zng _) (Ze 0) (by rfl) (by rfl) (by decide) (by decide) (by rfl) (by rfl) (by rfl)) (by intro _;rfl))) (@Zt _ _ _ _ Znj) Zeb) (@Zf _ _ _ _ _ _ (@Zad _ _ _ _ _ 1 _ _ Zac.nd Zei (by rfl) (by trivial) (by rfl) (by trivial)) (@Zf _ _ _ _ _ _ (@Zad _ _ _ _ _ 2 _ _ Zac.nd (@e_if _ _ _ _ _ _ _ _ _ (@Zt0 _ _ _ _ _ _ _ hv (Ze 0) Zbb) (@Zg7 _ _ _ _ _ Zcg) (@Znn _ _ _ _ _ _ _ _ (Ze 0) Zbb (by rfl) (by rfl) (by rfl) (by rfl) (by rfl))) (by rfl) (by trivial) (by rfl) (by trivial)) (@Zf _ _ _ _ _ _ (@Zg8 _ _ _ _ _ _ _ _ _ PassesOwn.never rfl (@Zud _ _ _ _ _ _ _ _ _ _ _ _ T.z_enumerate (Ze 2) (by rfl) (by rfl) (by rfl)) (@Zw3 _ _ _ _ _ _ _ rfl (@Zfu _ _ _ _ _ _ (@Zb0 _ _ _ 3 _ Zac.nd (by rfl) (by trivial) (by trivial)) (@Zfu _ _ _ _ _ _ (@Zb0 _ _ _ 4 _ Zac.nd (by rfl) (by trivial) (by trivial)) Zrx (by rfl)) (by rfl)) (by rfl) (by rfl)) (@Zf _ _ _ _ _ _ (@Zad _ _ _ _ _ 5 _ _ Zac.nd (@Zqv _ _ _ _ _ _ _ _ _ _ (Ze 4) Zbb Zl (by rfl) (by rfl) (by rfl) (by rfl) (by rfl) (by rfl)) (by rfl) (by trivial) (by rfl) (by trivial)) (@Zf _ _ _ _ _ _ (@Zad _ _ _ _ _ 6 _ _ Zac.nd (@Z6 _ _ _ _ _ _ _ _ _ _ _ _ _ _ Vx8 (hr.mono (by decide)) T.m_8 T.k_8 Wx8 (@Zj _ _ _ _ _ _ (Ze 5) Zag (by rfl)) (by rfl) (by decide) (by rfl) (by rfl)) (by rfl) (by trivial) (by rfl) (by trivial)) (@Zf _ _ _ _ _ _ (@s_if _ _ _ _ _ _ _ _ _ (@PW.pt _ _ _ (@w_or _ _ _ _ _ _ _ _ (@Zw1 _ _ _ _ _ _ _ (Ze 6) Ziv) (@Znc _ _ _ _ _ (@Z0x _ _ _ _ _ _ _ hu (@Zam _ _ _ _ _ _ _ hu (Ze 5) Zl (by intro _ _;rfl)) (Ze 1) (by rfl))))) (@Zt _ _ _ _ Znj) Zeb) (@Zt _ _ _ _ (@Zqm _ _ _ _ _ _ _ 1 _ _ _ hu (@Zam _ _ _ _ _ _ _ hu (Ze 5) Zl (by intro _ _;rfl)) (@Ztj _ _ _ _ _ _ (@Zak _ _ _ _ _ _ (@Zam _ _ _ _ _ _ _ hu (Ze 5) Zl (by intro _ _;rfl)) (@Zak _ _ _ _ _ _ (Ze 6) Zcg (by rfl)) (by rfl))) (by rfl) (by trivial) (by decide) (by decide) (by rfl)))))) (by intro _;rfl)) (@Zt _ _ _ _ (@Zbc _ _ _ _ _ (Ze 1)))))))
theorem Zh5{fd:FuncData}(F:Fun K "_law_mixed" "_law_mixed" Zb8 fx10 fd):
  FnOk P w K mg base CX0 1 fx10 fd ["_law_cell","_law_by"] (spOf K 2 Zab):=by
 refine okB F Zh1 rfl Zcs fun _ _ _ _ _ _ _ hr hu hv=>?_
 exact(@Zt _ _ _ _ (@Zbc _ _ _ _ _ (@Zcf _ _ _ _ _ _ _ (@Zkd _ _ _ _ _ _ _ (@Zcf _ _ _ _ _ _ _ (Ze 0) Zl) (Ze 1)) Zl)))
theorem Ze4{fd:FuncData}(F:Fun K "_law_cell_at" "_law_cell_at" Zbd fx11 fd):
  FnOk P w K mg base CX0 1 fx11 fd ["_law_script","_law_k"] (spOf K 2 Zae):=by
 refine okB F Ze3 rfl Zbv fun _ _ _ _ _ _ _ hr hu hv=>?_
 exact(@Zf _ _ _ _ _ _ (@s_if _ _ _ _ _ _ _ _ _ (@t_lt _ _ _ _ _ _ _ (Ze 1) (@Zoj _ _ _ _ _ _ T.z_len (Ze 0) (by rfl) (by rfl) (by rfl))) (@Zt _ _ _ _ (@Zbc _ _ _ _ _ (@Zam _ _ _ _ _ _ _ hu (Ze 0) (Ze 1) (by intro _ _;rfl)))) Zeb) (@Zt _ _ _ _ (@Zbc _ _ _ _ _ Zl)))
theorem Zh6{fd:FuncData}(F:Fun K "_law_plain" "_law_plain" Zb9 fx12 fd):
  FnOk P w K mg base CX0 1 fx12 fd ["_law_number"] (spOf K 1 Za6):=by
 refine okB F Zal rfl Zct fun _ _ _ _ _ _ _ hr hu hv=>?_
 exact(@Zf _ _ _ _ _ _ (@Zad _ _ _ _ _ 1 _ _ Zal.nd Zbb (by rfl) (by trivial) (by rfl) (by trivial)) (@Zf _ _ _ _ _ _ (@Zad _ _ _ _ _ 2 _ _ Zal.nd Zbb (by rfl) (by trivial) (by rfl) (by trivial)) (@Zf _ _ _ _ _ _ (@Zg8 _ _ _ _ _ _ _ _ _ PassesOwn.never rfl (@Zqa _ _ _ _ _ _ _ T.z_range (@Zam _ _ _ _ _ _ _ hu (@Zg7 _ _ _ _ _ (@Zak _ _ _ _ _ _ (@Za7 _ _ _ _ _ _ _ Zl (@Zcf _ _ _ _ _ _ _ (Ze 0) Zl)) (@Zak _ _ _ _ _ _ Zl (@Zak _ _ _ _ _ _ (@Za7 _ _ _ _ _ _ _ Zl (@Zcf _ _ _ _ _ _ _ (Ze 0) Zl)) (@Zak _ _ _ _ _ _ (@Za7 _ _ _ _ _ _ _ Zl (@Zcf _ _ _ _ _ _ _ (Ze 0) Zl)) (@Zak _ _ _ _ _ _ Zl Zcg (by rfl)) (by rfl)) (by rfl)) (by rfl)) (by rfl))) (@Zcf _ _ _ _ _ _ _ (@Zea _ _ _ _ _ _ _ (Ze 0) Zl) Zl) (by intro _ _;rfl)) (by rfl) (by rfl)) (@Zb0 _ _ _ 3 _ Zal.nd (by rfl) (by trivial) (by trivial)) (@Zf _ _ _ _ _ _ (@Zad _ _ _ _ _ 0 _ _ Zal.nd (@Zcf _ _ _ _ _ _ _ (@Za7 _ _ _ _ _ _ _ (@Zkd _ _ _ _ _ _ _ (Ze 0) Zl) Zl) Zl) (by rfl) (by trivial) (by rfl) (by trivial)) (@Zt _ _ _ _ (@Zad _ _ _ _ _ 2 _ _ Zal.nd (@Za7 _ _ _ _ _ _ _ (Ze 2) (@Zam _ _ _ _ _ _ _ hu (Ze 1) (@Zcf _ _ _ _ _ _ _ (Ze 0) Zl) (by intro _ _;rfl))) (by rfl) (by trivial) (by rfl) (by trivial)))) (by intro _;rfl)) (@Zt _ _ _ _ (@Zbc _ _ _ _ _ (Ze 2))))))
theorem Zlw{fd:FuncData}(F:Fun K "_law_row" "_law_row" Zdg fx13 fd){dx12:FuncData}(Vx12:FnOk P w K mg base CX0 1 fx12 dx12 ["_law_number"] (spOf K 1 Za6))(Wx12:Zax K dx12 ["_law_number"] []):
  FnOk P w K mg base CX0 2 fx13 fd ["_law_number","_law_fields","_law_own"] (spU K 2 Zbj):=by
 refine okBU F Zas rfl Zev Zew fun _ _ _ _ _ _ _ _ hr hu hv=>?_
 show PSs _ _ (tSeq (Zy _ (setF 3 (Za (.str "")))) (tSeq (Zy _ (forF (rngI (Zc (binF addD (Za (.int 1)) (binF modD (Zd 0) (Za (.int 5)))) Zi)) (Zq 4) Zar)) (tRet (Zb _ (Zd 3)))))
 exact Zbl (@Zad _ _ _ _ _ 3 _ _ Zas.nd Zbb (by rfl) (by trivial) (by rfl) (by trivial)) (Zbl (@Zg8 _ _ _ _ _ _ _ _ _ PassesOwn.never rfl (@Zqa _ _ _ _ _ _ _ T.z_range (@Za7 _ _ _ _ _ _ _ Zl (@Zcf _ _ _ _ _ _ _ (Ze 0) Zl)) (by rfl) (by rfl)) (@Zb0 _ _ _ 4 _ Zas.nd (by rfl) (by trivial) (by trivial)) (@Zf _ _ _ _ _ _ (@Zad _ _ _ _ _ 0 _ _ Zas.nd (@Zcf _ _ _ _ _ _ _ (@Za7 _ _ _ _ _ _ _ (@Zkd _ _ _ _ _ _ _ (Ze 0) Zl) Zl) Zl) (by rfl) (by trivial) (by rfl) (by trivial)) (@Zt _ _ _ _ (@s_if _ _ _ _ _ _ _ _ _ (@Zt0 _ _ _ _ _ _ _ hv (@Zcf _ _ _ _ _ _ _ (@Zea _ _ _ _ _ _ _ (Ze 0) Zl) Zl) Zl) (@Zt _ _ _ _ (@Zad _ _ _ _ _ 3 _ _ Zas.nd (@Za7 _ _ _ _ _ _ _ (Ze 3) (@Zam _ _ _ _ _ _ _ hu (@Zg7 _ _ _ _ _ (@Zn7 _ _ _ _ [("",_,_),(": ",_,_),("; (",_,_),(" = A. B & 9/0?!+*'-,",_,_),(" ",_,_)] Zcg)) (@Zcf _ _ _ _ _ _ _ (@Zea _ _ _ _ _ _ _ (Ze 0) Zl) Zl) (by intro _ _;rfl))) (by rfl) (by trivial) (by rfl) (by trivial))) (@Zf _ _ _ _ _ _ (@Zad _ _ _ _ _ 5 _ _ Zas.nd (@Zam _ _ _ _ _ _ _ hu (Ze 1) (@Zcf _ _ _ _ _ _ _ (@Zea _ _ _ _ _ _ _ (Ze 0) Zl) Zl) (by intro _ _;rfl)) (by rfl) (by trivial) (by rfl) (by trivial)) (@Zf _ _ _ _ _ _ (@Zqm _ _ _ _ _ _ _ 2 _ _ _ hu (Ze 5) (@Zr3 _ _ _ _ _ _ _ _ _ hu (Ze 2) (@Zak _ _ _ _ _ _ (Ze 5) (@Zak _ _ _ _ _ _ (@Z6 _ _ _ _ _ _ _ _ _ _ _ _ _ _ Vx12 (hr.mono (by decide)) T.m_12 T.k_12 Wx12 (@Zj _ _ _ _ _ _ (@Zea _ _ _ _ _ _ _ (Ze 0) Zl) Zag (by rfl)) (by rfl) (by decide) (by rfl) (by rfl)) Zcg (by rfl)) (by rfl)) (by rfl) (by rfl) (by rfl) (by rfl) (by rfl)) (by rfl) (by trivial) (by decide) (by decide) (by rfl)) (@Zt _ _ _ _ (@Zad _ _ _ _ _ 3 _ _ Zas.nd (@Za7 _ _ _ _ _ _ _ (@Za7 _ _ _ _ _ _ _ (@Za7 _ _ _ _ _ _ _ (@Za7 _ _ _ _ _ _ _ (@Za7 _ _ _ _ _ _ _ (Ze 3) Zbb) (Ze 5)) Zbb) (@Zam _ _ _ _ _ _ _ hu (Ze 2) (Ze 5) (by intro _ _;rfl))) Zbb) (by rfl) (by trivial) (by rfl) (by trivial)))))))) (by intro _;rfl)) (Zie (Zrj (Ze 3))))
theorem Zx5{fd:FuncData}(F:Fun K "law" "law" Zc3 fx14 fd){dx0:FuncData}(Vx0:FnOk P w K mg base CX0 1 fx0 dx0 ["_law_number","_law_many"] (spOf K 2 Z1))(Wx0:Zax K dx0 ["_law_number","_law_many"] []){dx9:FuncData}(Vx9:FnOk P w K mg base CX0 7 fx9 dx9 ["text"] (spOf K 1 Z2))(Wx9:Zax K dx9 ["text"] []){dx10:FuncData}(Vx10:FnOk P w K mg base CX0 1 fx10 dx10 ["_law_cell","_law_by"] (spOf K 2 Zab))(Wx10:Zax K dx10 ["_law_cell","_law_by"] []){dx11:FuncData}(Vx11:FnOk P w K mg base CX0 1 fx11 dx11 ["_law_script","_law_k"] (spOf K 2 Zae))(Wx11:Zax K dx11 ["_law_script","_law_k"] []){dx13:FuncData}(Vx13:FnOk P w K mg base CX0 2 fx13 dx13 ["_law_number","_law_fields","_law_own"] (spU K 2 Zbj))(Wx13:Zax K dx13 ["_law_number","_law_fields","_law_own"] []):
  FnOk P w K mg base CX0 8 fx14 fd ["_law_script"] (spOf K 1 Zgc):=by
 refine okB F Zbk rfl Zup fun _ _ _ _ _ _ _ hr hu hv=>?_
 exact(@Zf _ _ _ _ _ _ (@Zad _ _ _ _ _ 1 _ _ Zbk.nd (@Za7 _ _ _ _ _ _ _ (@Z6 _ _ _ _ _ _ _ _ _ _ _ _ _ _ Vx0 (hr.mono (by decide)) T.m_0 T.k_0 Wx0 (@Zj _ _ _ _ _ _ (@Z6 _ _ _ _ _ _ _ _ _ _ _ _ _ _ Vx10 (hr.mono (by decide)) T.m_10 T.k_10 Wx10 (@Zj _ _ _ _ _ _ (@Z6 _ _ _ _ _ _ _ _ _ _ _ _ _ _ Vx11 (hr.mono (by decide)) T.m_11 T.k_11 Wx11 (@Zj _ _ _ _ _ _ (Ze 0) (@Zj _ _ _ _ _ _ Zl Zag (by rfl)) (by rfl)) (by rfl) (by decide) (by rfl) (by rfl)) (@Zj _ _ _ _ _ _ Zl Zag (by rfl)) (by rfl)) (by rfl) (by decide) (by rfl) (by rfl)) (@Zj _ _ _ _ _ _ Zl Zag (by rfl)) (by rfl)) (by rfl) (by decide) (by rfl) (by rfl)) (@Zg7 _ _ _ _ _ (@Zak _ _ _ _ _ _ Zbb Zcg (by rfl)))) (by rfl) (by trivial) (by rfl) (by trivial)) (@Zf _ _ _ _ _ _ (@Zad _ _ _ _ _ 2 _ _ Zbk.nd (@Z6 _ _ _ _ _ _ _ _ _ _ _ _ _ _ Vx0 (hr.mono (by decide)) T.m_0 T.k_0 Wx0 (@Zj _ _ _ _ _ _ (@Z6 _ _ _ _ _ _ _ _ _ _ _ _ _ _ Vx10 (hr.mono (by decide)) T.m_10 T.k_10 Wx10 (@Zj _ _ _ _ _ _ (@Z6 _ _ _ _ _ _ _ _ _ _ _ _ _ _ Vx11 (hr.mono (by decide)) T.m_11 T.k_11 Wx11 (@Zj _ _ _ _ _ _ (Ze 0) (@Zj _ _ _ _ _ _ Zl Zag (by rfl)) (by rfl)) (by rfl) (by decide) (by rfl) (by rfl)) (@Zj _ _ _ _ _ _ Zl Zag (by rfl)) (by rfl)) (by rfl) (by decide) (by rfl) (by rfl)) (@Zj _ _ _ _ _ _ Zl Zag (by rfl)) (by rfl)) (by rfl) (by decide) (by rfl) (by rfl)) (by rfl) (by trivial) (by rfl) (by trivial)) (@Zf _ _ _ _ _ _ (@Zad _ _ _ _ _ 3 _ _ Zbk.nd (@Zg7 _ _ _ _ _ Zcg) (by rfl) (by trivial) (by rfl) (by trivial)) (@Zf _ _ _ _ _ _ (@Zad _ _ _ _ _ 4 _ _ Zbk.nd Zei (by rfl) (by trivial) (by rfl) (by trivial)) (@Zf _ _ _ _ _ _ (@Zg8 _ _ _ _ _ _ _ _ _ PassesOwn.never rfl (@Ztq _ _ _ _ _ _ _ _ _ T.z_enumerate (@Zak _ _ _ _ _ _ (@e_sl _ _ _ _ _ _ _ _ _ _ (Ze 0) (@Ze9 _ _ _ _ Zl) (@Ze9 _ _ _ _ Zl)) Zcg (by rfl)) (by rfl) (by rfl)) (@Zw3 _ _ _ _ _ _ _ rfl (@Zfu _ _ _ _ _ _ (@Zb0 _ _ _ 5 _ Zbk.nd (by rfl) (by trivial) (by trivial)) (@Zfu _ _ _ _ _ _ (@Zb0 _ _ _ 6 _ Zbk.nd (by rfl) (by trivial) (by trivial)) Zrx (by rfl)) (by rfl)) (by rfl) (by rfl)) (@Zf _ _ _ _ _ _ (@Zad _ _ _ _ _ 7 _ _ Zbk.nd (@Z6 _ _ _ _ _ _ _ _ _ _ _ _ _ _ Vx10 (hr.mono (by decide)) T.m_10 T.k_10 Wx10 (@Zj _ _ _ _ _ _ (@Za7 _ _ _ _ _ _ _ (Ze 6) (Ze 5)) (@Zj _ _ _ _ _ _ Zl Zag (by rfl)) (by rfl)) (by rfl) (by decide) (by rfl) (by rfl)) (by rfl) (by trivial) (by rfl) (by trivial)) (@Zf _ _ _ _ _ _ (@Zad _ _ _ _ _ 8 _ _ Zbk.nd Zei (by rfl) (by trivial) (by rfl) (by trivial)) (@Zf _ _ _ _ _ _ (@Zad _ _ _ _ _ 9 _ _ Zbk.nd (@Zam _ _ _ _ _ _ _ hu (@Z6 _ _ _ _ _ _ _ _ _ _ _ _ _ _ Vx0 (hr.mono (by decide)) T.m_0 T.k_0 Wx0 (@Zj _ _ _ _ _ _ (@Z6 _ _ _ _ _ _ _ _ _ _ _ _ _ _ Vx10 (hr.mono (by decide)) T.m_10 T.k_10 Wx10 (@Zj _ _ _ _ _ _ (Ze 6) (@Zj _ _ _ _ _ _ Zl Zag (by rfl)) (by rfl)) (by rfl) (by decide) (by rfl) (by rfl)) (@Zj _ _ _ _ _ _ Zl Zag (by rfl)) (by rfl)) (by rfl) (by decide) (by rfl) (by rfl)) Zl (by intro _ _;rfl)) (by rfl) (by trivial) (by rfl) (by trivial)) (@Zf _ _ _ _ _ _ (@Zxx _ _ _ _ _ 3 _ _ _ _ (@Z1d _ _ _ _ _ _ _ (@Za7 _ _ _ _ _ _ _ (@Za7 _ _ _ _ _ _ _ (@Za7 _ _ _ _ _ _ _ (@Zam _ _ _ _ _ _ _ hu (Ze 2) (Ze 5) (by intro _ _;rfl)) Zbb) (Ze 9)) Zbb) (@Zxw _ _ _ _ 8 _ _ _ _ _ _ _ _ _ _ Vx13 (hr.mono (by decide)) T.m_13 T.k_13 Wx13 (@Zoo _ _ _ _ _ _ _ (Ze 7) (@Zoo _ _ _ _ _ _ _ (Ze 1) (@Zxv _ _ _ 8 (@Zt9 _ 8 _ _ (by rfl) (by trivial) (by decide) (by decide)) (by rfl)) (by rfl)) (by rfl)) (by rfl) (by decide) (by rfl) (by rfl))) (by rfl) (by trivial) (by decide) (by decide) (by rfl) (by rfl) (by rfl) (by rfl) (by rfl) (by rfl)) (@Zt _ _ _ _ (@Zqm _ _ _ _ _ _ _ 4 _ _ _ hu (@Zam _ _ _ _ _ _ _ hu (Ze 2) (Ze 5) (by intro _ _;rfl)) (@Ztj _ _ _ _ _ _ (@Zak _ _ _ _ _ _ (Ze 9) (@Zak _ _ _ _ _ _ (Ze 8) Zcg (by rfl)) (by rfl))) (by rfl) (by trivial) (by decide) (by decide) (by rfl))))))) (by intro _;rfl)) (@Zf _ _ _ _ _ _ (@Zad _ _ _ _ _ 10 _ _ Zbk.nd (@Znq _ _ _ _ _ _ _ _ Zbb (Ze 3) (by rfl) (by rfl) (by rfl) (by rfl) (by rfl)) (by rfl) (by trivial) (by rfl) (by trivial)) (@Zuk _ _ _ _ _ _ _ _ _ _ _ _ _ _ _ _ _ _ _ (@Zx1 _ _ _ _ 11 _ _ _ _ _ _ _ _ _ _ _ _ _ Vx9 (hr.mono (by decide)) T.m_9 T.k_9 Wx9 Zbk.nd (@Zak _ _ _ _ _ _ (Ze 10) Zcg (by rfl)) (by rfl) (by decide) (by rfl) (by rfl) (by rfl) (by trivial) (by rfl) (by trivial)) (@w_if _ _ _ _ _ _ _ (@PW.pt _ _ _ (@w_or _ _ _ _ _ _ _ _ (@Zg6 _ _ _ _ _ (@Zft _ _ _ _ (@Zne _ _ _ _ _ _ _ _ _ T.z_isinstance T.z_dict boot_dict (Zjy _) (Ze 11) (by rfl) (by rfl) (by decide) (by decide) (by rfl) (by rfl) (by rfl)) (by intro _;rfl))) (@Znc _ _ _ _ _ (@Zxe _ _ _ _ _ _ _ hv (Ze 11) (Ze 4))))) (@Zt _ _ _ _ (@Zbc _ _ _ _ _ e_bl))) (@Z1f _ _ _ 12 _ _ _ _ _ _ _ PassesOwn.never rfl Zbk.nd (fun _=>(Ze 4)) (@w_if _ _ _ _ _ _ _ (@PW.pt _ _ _ (@w_or _ _ _ _ _ _ _ _ (@Zg6 _ _ _ _ _ (@Zft _ _ _ _ (@Zne _ _ _ _ _ _ _ _ _ T.z_isinstance T.z_tuple boot_tuple (Znh _) (@Zam _ _ _ _ _ _ _ hu (Ze 11) (Ze 12) (by intro _ _;rfl)) (by rfl) (by rfl) (by decide) (by decide) (by rfl) (by rfl) (by rfl)) (by intro _;rfl))) (@Znc _ _ _ _ _ (@Zg6 _ _ _ _ _ (@Zft _ _ _ _ (@Zne _ _ _ _ _ _ _ _ _ T.z_isinstance T.z_dict boot_dict (Zjy _) (@Zam _ _ _ _ _ _ _ hu (@Zam _ _ _ _ _ _ _ hu (Ze 11) (Ze 12) (by intro _ _;rfl)) Zl (by intro _ _;rfl)) (by rfl) (by rfl) (by decide) (by decide) (by rfl) (by rfl) (by rfl)) (by intro _;rfl)))))) (@Zt _ _ _ _ (@Zbc _ _ _ _ _ e_bl))) (@Z1e _ _ 11 12 _ _ _ _ _ _ _ _ _ _ _ _ _ _ _ hu (@Zt9 _ 11 _ _ (by rfl) (by trivial) (by decide) (by decide)) (@Zt9 _ 12 _ _ (by rfl) (by trivial) (by decide) (by decide)) (by rfl)) (by rfl) (by trivial) (by trivial) (by intro _;rfl)) (@Zt _ _ _ _ (@Zbc _ _ _ _ _ (@Zp9 _ _ _ _ _ _ _ _ (@Ztz _ _ _ _ _ _ _ hv (@Z6 _ _ _ _ _ _ _ _ _ _ _ _ _ _ Vx9 (hr.mono (by decide)) T.m_9 T.k_9 Wx9 (@Zj _ _ _ _ _ _ (Ze 10) Zag (by rfl)) (by rfl) (by decide) (by rfl) (by rfl)) (Ze 4)) (@Zti _ _ _ _ _ _ (@Ztz _ _ _ _ _ _ _ hv (@Z6 _ _ _ _ _ _ _ _ _ _ _ _ _ _ Vx9 (hr.mono (by decide)) T.m_9 T.k_9 Wx9 (@Zj _ _ _ _ _ _ Zbb Zag (by rfl)) (by rfl) (by decide) (by rfl) (by rfl)) Zei))))))))))))
end
theorem Zx6 {l : PySem.W.OpenLaw} {w : World} {K : PySem.W.Frag} {h : Heap} {mg : Str → Option Value} {tx0 : Tok} {tx1 : Tok} {tx2 : Tok} {tx3 : Tok} {tx4 : Tok} {fa fx0 fx1 fx2 fx3 fx4 fx5 fx6 fx7 fx8 fx9 fx10 fx11 fx12 fx13 fx14 : Addr} (X : K.In h) (G : h.Ns mainGlobals mg) (hfa : mg "law" = some (.ref fa))
    {odx14 anx14 : Option Addr} {slx14 : Array (Option Value)} {ocx14 kVx14 dcx14 pmx14 cdx14 ctx14 : Value}
    (ax0 : PySem.W.nsIn K mainGlobals "_law_names" = some (some (.ref fx0))) (Fx0 : ∃ fd, Fun K "_law_names" "_law_names" Zb5 fx0 fd) (kx0 : PySem.W.keepIn K (.ref fx0) = true)
    (ax1 : PySem.W.nsIn K mainGlobals "is_all_of" = some (some (.ref fx1))) (Fx1 : ∃ fd, Fun K "is_all_of" "is_all_of" Zb6 fx1 fd) (kx1 : PySem.W.keepIn K (.ref fx1) = true)
    (ax2 : PySem.W.nsIn K mainGlobals "angled" = some (some (.ref fx2))) (Fx2 : ∃ fd, Fun K "angled" "angled" Zes fx2 fd) (kx2 : PySem.W.keepIn K (.ref fx2) = true)
    (ax3 : PySem.W.nsIn K mainGlobals "is_text_of" = some (some (.ref fx3))) (Fx3 : ∃ fd, Fun K "is_text_of" "is_text_of" Zbs fx3 fd) (kx3 : PySem.W.keepIn K (.ref fx3) = true)
    (ax4 : PySem.W.nsIn K mainGlobals "is_name" = some (some (.ref fx4))) (Fx4 : ∃ fd, Fun K "is_name" "is_name" Zde fx4 fd) (kx4 : PySem.W.keepIn K (.ref fx4) = true)
    (ax5 : PySem.W.nsIn K mainGlobals "is_plain" = some (some (.ref fx5))) (Fx5 : ∃ fd, Fun K "is_plain" "is_plain" Zcn fx5 fd) (kx5 : PySem.W.keepIn K (.ref fx5) = true)
    (ax6 : PySem.W.nsIn K mainGlobals "is_mark" = some (some (.ref fx6))) (Fx6 : ∃ fd, Fun K "is_mark" "is_mark" Zdf fx6 fd) (kx6 : PySem.W.keepIn K (.ref fx6) = true)
    (ax7 : PySem.W.nsIn K mainGlobals "read_marks" = some (some (.ref fx7))) (Fx7 : ∃ fd, Fun K "read_marks" "read_marks" Zbt fx7 fd) (kx7 : PySem.W.keepIn K (.ref fx7) = true)
    (ax8 : PySem.W.nsIn K mainGlobals "read_row" = some (some (.ref fx8))) (Fx8 : ∃ fd, Fun K "read_row" "read_row" Zco fx8 fd) (kx8 : PySem.W.keepIn K (.ref fx8) = true)
    (ax9 : PySem.W.nsIn K mainGlobals "read_list" = some (some (.ref fx9))) (Fx9 : ∃ fd, Fun K "read_list" "read_list" Zb7 fx9 fd) (kx9 : PySem.W.keepIn K (.ref fx9) = true)
    (ax10 : PySem.W.nsIn K mainGlobals "_law_mixed" = some (some (.ref fx10))) (Fx10 : ∃ fd, Fun K "_law_mixed" "_law_mixed" Zb8 fx10 fd) (kx10 : PySem.W.keepIn K (.ref fx10) = true)
    (ax11 : PySem.W.nsIn K mainGlobals "_law_cell_at" = some (some (.ref fx11))) (Fx11 : ∃ fd, Fun K "_law_cell_at" "_law_cell_at" Zbd fx11 fd) (kx11 : PySem.W.keepIn K (.ref fx11) = true)
    (ax12 : PySem.W.nsIn K mainGlobals "_law_plain" = some (some (.ref fx12))) (Fx12 : ∃ fd, Fun K "_law_plain" "_law_plain" Zb9 fx12 fd) (kx12 : PySem.W.keepIn K (.ref fx12) = true)
    (ax13 : PySem.W.nsIn K mainGlobals "_law_row" = some (some (.ref fx13))) (Fx13 : ∃ fd, Fun K "_law_row" "_law_row" Zdg fx13 fd) (kx13 : PySem.W.keepIn K (.ref fx13) = true)
    (ax14 : PySem.W.nsIn K mainGlobals "law" = some (some (.ref fx14))) (lx14 : K.lookup fx14 = some ⟨ocx14, odx14, .func (PySem.W.fnOf "law" "law" (Zc6 Zc3) (Zbm Zc3) (Zg Zc3) .none kVx14 dcx14 pmx14 anx14 cdx14 ctx14), slx14⟩) (cx14 : PySem.W.codeIn K cdx14 "law" = true) (kx14 : PySem.W.keepIn K (.ref fx14) = true)
    (zall : PySem.W.nsIn K mainGlobals "all" = some none)
    (zdict : PySem.W.nsIn K mainGlobals "dict" = some none)
    (zenumerate : PySem.W.nsIn K mainGlobals "enumerate" = some none)
    (zint : PySem.W.nsIn K mainGlobals "int" = some none)
    (zisinstance : PySem.W.nsIn K mainGlobals "isinstance" = some none)
    (zlen : PySem.W.nsIn K mainGlobals "len" = some none)
    (zrange : PySem.W.nsIn K mainGlobals "range" = some none)
    (zstr : PySem.W.nsIn K mainGlobals "str" = some none)
    (ztuple : PySem.W.nsIn K mainGlobals "tuple" = some none)
    (zx0 : PySem.W.nsIn K mainGlobals "NAME_LENGTH" = some (some (.int 8 tx0)))
    (zx1 : PySem.W.nsIn K mainGlobals "PLAIN_LENGTH" = some (some (.int 80 tx1)))
    (zx2 : PySem.W.nsIn K mainGlobals "PLAIN_SIGNS" = some (some (.str "ABCDEFGHIJKLMNOPQRSTUVWXYZabcdefghijklmnopqrstuvwxyz0123456789 .,!?'-/()&+*=" tx2)))
    (zx3 : PySem.W.nsIn K mainGlobals "SMALL_LETTERS" = some (some (.str "abcdefghijklmnopqrstuvwxyz" tx3)))
    (zx4 : PySem.W.nsIn K mainGlobals "STYLE_SIGNS" = some (some (.str "ABCDEFGHIJKLMNOPQRSTUVWXYZabcdefghijklmnopqrstuvwxyz0123456789 .,!?'-/()&+*=:;" tx4)))
    : ∃ fd : FuncData, (∀ (s : Shared) (v : Value), BindsTo s fd ⟨[v], []⟩ [("_law_script", v)]) ∧ ∀ base : Heap, K.In base → base.Ns mainGlobals mg → FnOk l.prog w K mg base CX0 8 fa fd ["_law_script"] (spOf K 1 Zgc) := by
  have e := hfa.symm.trans (PySem.W.mg_of X G ax14)
  cases e
  have T : Txt K mg tx0 tx1 tx2 tx3 tx4 fx0 fx1 fx2 fx3 fx4 fx5 fx6 fx7 fx8 fx9 fx10 fx11 fx12 fx13 _ := ⟨PySem.W.mg_none_of X G zall, PySem.W.mg_none_of X G zdict, PySem.W.mg_none_of X G zenumerate, PySem.W.mg_none_of X G zint, PySem.W.mg_none_of X G zisinstance, PySem.W.mg_none_of X G zlen, PySem.W.mg_none_of X G zrange, PySem.W.mg_none_of X G zstr, PySem.W.mg_none_of X G ztuple, PySem.W.mg_of X G zx0, PySem.W.mg_of X G zx1, PySem.W.mg_of X G zx2, PySem.W.mg_of X G zx3, PySem.W.mg_of X G zx4, PySem.W.mg_of X G ax0, kx0, PySem.W.mg_of X G ax1, kx1, PySem.W.mg_of X G ax2, kx2, PySem.W.mg_of X G ax3, kx3, PySem.W.mg_of X G ax4, kx4, PySem.W.mg_of X G ax5, kx5, PySem.W.mg_of X G ax6, kx6, PySem.W.mg_of X G ax7, kx7, PySem.W.mg_of X G ax8, kx8, PySem.W.mg_of X G ax9, kx9, PySem.W.mg_of X G ax10, kx10, PySem.W.mg_of X G ax11, kx11, PySem.W.mg_of X G ax12, kx12, PySem.W.mg_of X G ax13, kx13, PySem.W.mg_of X G ax14, kx14⟩
  obtain ⟨_, Fx0⟩ := Fx0
  obtain ⟨_, Fx1⟩ := Fx1
  obtain ⟨_, Fx2⟩ := Fx2
  obtain ⟨_, Fx3⟩ := Fx3
  obtain ⟨_, Fx4⟩ := Fx4
  obtain ⟨_, Fx5⟩ := Fx5
  obtain ⟨_, Fx6⟩ := Fx6
  obtain ⟨_, Fx7⟩ := Fx7
  obtain ⟨_, Fx8⟩ := Fx8
  obtain ⟨_, Fx9⟩ := Fx9
  obtain ⟨_, Fx10⟩ := Fx10
  obtain ⟨_, Fx11⟩ := Fx11
  obtain ⟨_, Fx12⟩ := Fx12
  obtain ⟨_, Fx13⟩ := Fx13
  have Fx14 := Za5 (st := Zc3) lx14 cx14 kx14
  have bx0 := Fx0.binds (ps := ["_law_number", "_law_many"]) fun _ _ _ _ _ _ us hl => of2 (fun _ _ => rfl) us hl
  have bx1 := Fx1.binds (ps := ["text", "signs"]) fun _ _ _ _ _ _ us hl => of2 (fun _ _ => rfl) us hl
  have bx2 := Fx2.binds (ps := ["text", "signs"]) fun _ _ _ _ _ _ us hl => of2 (fun _ _ => rfl) us hl
  have bx3 := Fx3.binds (ps := ["value", "signs", "most"]) fun _ _ _ _ _ _ us hl => of3 (fun _ _ _ => rfl) us hl
  have bx4 := Fx4.binds (ps := ["value"]) fun _ _ _ _ _ _ us hl => of1 (fun _ => rfl) us hl
  have bx5 := Fx5.binds (ps := ["value"]) fun _ _ _ _ _ _ us hl => of1 (fun _ => rfl) us hl
  have bx6 := Fx6.binds (ps := ["name", "text"]) fun _ _ _ _ _ _ us hl => of2 (fun _ _ => rfl) us hl
  have bx7 := Fx7.binds (ps := ["marks"]) fun _ _ _ _ _ _ us hl => of1 (fun _ => rfl) us hl
  have bx8 := Fx8.binds (ps := ["words"]) fun _ _ _ _ _ _ us hl => of1 (fun _ => rfl) us hl
  have bx9 := Fx9.binds (ps := ["text"]) fun _ _ _ _ _ _ us hl => of1 (fun _ => rfl) us hl
  have bx10 := Fx10.binds (ps := ["_law_cell", "_law_by"]) fun _ _ _ _ _ _ us hl => of2 (fun _ _ => rfl) us hl
  have bx11 := Fx11.binds (ps := ["_law_script", "_law_k"]) fun _ _ _ _ _ _ us hl => of2 (fun _ _ => rfl) us hl
  have bx12 := Fx12.binds (ps := ["_law_number"]) fun _ _ _ _ _ _ us hl => of1 (fun _ => rfl) us hl
  have bx13 := Fx13.binds (ps := ["_law_number", "_law_fields", "_law_own"]) fun _ _ _ _ _ _ us hl => of3 (fun _ _ _ => rfl) us hl
  refine ⟨PySem.W.fnOf "law" "law" (Zc6 Zc3) (Zbm Zc3) (Zg Zc3) .none kVx14 dcx14 pmx14 anx14 cdx14 ctx14, fun s v => .of_eq rfl, fun base kb nb => ?_⟩
  have Gx0 := Zh2 (P := l.prog) (w := w) (base := base) T Fx0
  have Gx1 := Zh3 (P := l.prog) (w := w) (base := base) T Fx1
  have Gx2 := Zox (P := l.prog) (w := w) (base := base) T Fx2 Gx1 bx1
  have Gx3 := Zge (P := l.prog) (w := w) (base := base) T Fx3 Gx1 bx1
  have Gx4 := Zlu (P := l.prog) (w := w) (base := base) T Fx4 Gx3 bx3
  have Gx5 := Zje (P := l.prog) (w := w) (base := base) T Fx5 Gx3 bx3
  have Gx6 := Zlv (P := l.prog) (w := w) (base := base) T Fx6 Gx4 bx4 Gx5 bx5
  have Gx7 := Zgf (P := l.prog) (w := w) (base := base) T Fx7 Gx6 bx6
  have Gx8 := Zjf (P := l.prog) (w := w) (base := base) T Fx8 Gx2 bx2 Gx4 bx4 Gx7 bx7
  have Gx9 := Zh4 (P := l.prog) (w := w) (base := base) T Fx9 Gx8 bx8
  have Gx10 := Zh5 (P := l.prog) (w := w) (base := base) T Fx10
  have Gx11 := Ze4 (P := l.prog) (w := w) (base := base) T Fx11
  have Gx12 := Zh6 (P := l.prog) (w := w) (base := base) T Fx12
  have Gx13 := Zlw (P := l.prog) (w := w) (base := base) T Fx13 Gx12 bx12
  exact Zx5 T Fx14 Gx0 bx0 Gx9 bx9 Gx10 bx10 Gx11 bx11 Gx13 bx13
theorem Zx7{K:PySem.W.Frag}{H:Hp}{a:Addr}{ns:List Int}(hn:Zgc [.lst (ns.map D.int)]=some (.fz (.bl true)))(hO:Only H)(hS:SqL K H a (ns.map V.int)):spOf K 1 Zgc [.ref a] H (fun v _=>v= .bl true) fun _ _ _=>False:=by
 refine⟨H,[.lst (ns.map D.int)],.fz (.bl true),Same.refl H,.cons (.lst hS (Zjz ns)) .nil,rfl,hn,fun v H' F' ms _ _ _ _ sh _ _=>?_⟩
 cases Zbq sh
 rfl
theorem walk{l:PySem.W.OpenLaw}{q:Program}{loose:List Str}{XP:(Str→Option Value)→Heap→Prop}{YP:World→Heap→Prop}{d:DefRec}{K:Params→PySem.W.Frag}(hn:l.most=some 63)(hdf:d.params.defaults=[])
  (hY:∀(w:World) (h:Heap),YP w h→(K w.params).In h)
  (F:∀(w:World) (mg:Str→Option Value) (fa:Addr) (h:Heap),(K w.params).In h→h.Ns mainGlobals mg→mg d.name=some (.ref fa)→
   ∃fd:FuncData,(∀(s:Shared) (u:Value),BindsTo s fd ⟨[u],[]⟩ [("_law_script",u)])∧∀base:Heap,(K w.params).In base→base.Ns mainGlobals mg→FnOk l.prog w (K w.params) mg base CX0 8 fa fd ["_law_script"] (spOf (K w.params) 1 Zgc))
  (hlaw:∀ns:List Int,ns.length≤63→Zgc [.lst (ns.map D.int)]=some (.fz (.bl true))):
  PySem.W.WalkO q loose XP YP l.row.toRowW d [] (fun f vs=>PySem.call f vs):=
 L2.Zpy (n:=63) (k:=8) (x:="_law_script") (CX:=CX0) (sp:=fun K=>spOf K 1 Zgc) hn (by decide) hdf ⟨rfl,by decide,by decide⟩ hY F (fun _ _ _ ns hl hO hS=>Zx7 (hlaw ns hl) hO hS) fun _ _ _ _ z=>z
end Gen
namespace My
open DL PySem
noncomputable abbrev LT22:Str:="abcdefghjlmpqrstuvwxyz"
theorem Zra:LT22.cps.toList.length=22:=by decide+kernel
theorem Zh7:LT22.length≤PySem.sizeLine:=by decide+kernel
noncomputable def LC(j:Nat):Nat:=LT22.cps.toList.getD j 0
theorem Zx8:∀i<22,∀j<22,LC i=LC j→i=j:=by decide+kernel
theorem Z1i:∀i<22,97≤LC i∧LC i≤122∧LC i≠105∧LC i≠107∧LC i≠110∧LC i≠111:=by decide+kernel
theorem Z1j(i:Int):L2.atI LT22.cps.toList (i % 22)=some (LC (i % 22).toNat):=by
 have h0:0≤i % 22:=Int.emod_nonneg _ (by decide)
 have h1:i % 22<22:=Int.emod_lt_of_pos _ (by decide)
 obtain⟨j,hj⟩:=Int.eq_ofNat_of_zero_le h0
 rw[hj]
 have hjl:j<LT22.cps.toList.length:=by rw[Zra];omega
 refine Zhu _ _ _ ?_
 unfold LC
 rw[List.getD_eq_getElem?_getD,show((j:Int)).toNat=j by omega,List.getElem?_eq_getElem hjl]
 rfl
noncomputable def sgn(x:Int)(at':Int)(t:Nat)(k:Nat):Nat:=LC ((x / ((k:Int)+2)+(t:Int)*(if(k:Int)=at' then 1 else 0)) % 22).toNat
noncomputable def nmL(x at':Int)(size t:Nat):List Nat:=(List.range size).map (sgn x at' t)
theorem Zoy(a1 a3 a5:Option SV)(x at':Int)(t k:Nat)(hk:k≤100)(w:List Nat)(hw:w.length≤1000)(x9:Option SV):
  ∃y9,Gen.Z4 [some (.fz (.int x)),a1,some (.fz (.str LT22)),a3,some (.fz (.int at')),a5,some (.fz (.int (t:Int))),some (.fz (.str (S w))),some (.fz (.int (k:Int))),x9]=some (.nx [some (.fz (.int x)),a1,some (.fz (.str LT22)),a3,some (.fz (.int at')),a5,some (.fz (.int (t:Int))),some (.fz (.str (S (w++[sgn x at' t k])))),some (.fz (.int (k:Int))),y9]):=by
 have go:∀ki ti:Int,0≤ki→ki≤100→∀b:Int,(b=0∨b=1)→(if ki=at' then(1:Int)else 0)=b→∀ch,L2.atI LT22.cps.toList ((x / (ki+2)+ti*b) % 22)=some ch→
   Gen.Z4 [some (.fz (.int x)),a1,some (.fz (.str LT22)),a3,some (.fz (.int at')),a5,some (.fz (.int ti)),some (.fz (.str (S w))),some (.fz (.int ki)),x9]=some (.nx [some (.fz (.int x)),a1,some (.fz (.str LT22)),a3,some (.fz (.int at')),a5,some (.fz (.int ti)),some (.fz (.str (S (w++[ch])))),some (.fz (.int ki)),some (.fz (.int (ti*b)))]):=by
  intro ki ti h0 h1 b hb hif ch hch
  have hm:=Zkc (i:=ti) (j:=b) (by omega)
  have d1:0<ki+2:=by omega
  have d2:ki+2<1073741824:=by omega
  have z:(S w).length+(⟨#[ch]⟩:Str).length≤PySem.sizeLine:=Z0 (by rw[Z9 w];show w.length+1≤_;omega)
  have ea:S w++(⟨#[ch]⟩:Str)=S (w++[ch]):=Zbg w [ch]
  by_cases hk:ki=at'
  ·rw[if_pos hk]at hif
   subst hif
   unfold Gen.Z4
   simp[hk]at hm hch d1 d2⊢
   simp[hm,hch,d1,d2,Zh7,z,ea]
  ·rw[if_neg hk]at hif
   subst hif
   unfold Gen.Z4
   simp[hk]at hm hch⊢
   simp[hm,hch,d1,d2,Zh7,z,ea]
 refine⟨_,go (k:Int) (t:Int) (by omega) (by omega) (if(k:Int)=at' then 1 else 0) (by split<;> simp) rfl (sgn x at' t k) (Z1j _)⟩
theorem Zoz(a1 a3 a5:Option SV)(x at':Int)(t size:Nat)(hs:size≤100)(x8 x9:Option SV):
  ∃y8 y9,forD (Zq 8) Gen.Z4 (nats 0 size) [some (.fz (.int x)),a1,some (.fz (.str LT22)),a3,some (.fz (.int at')),a5,some (.fz (.int (t:Int))),some (.fz (.str (S []))),x8,x9]=some (.nx [some (.fz (.int x)),a1,some (.fz (.str LT22)),a3,some (.fz (.int at')),a5,some (.fz (.int (t:Int))),some (.fz (.str (S (nmL x at' size t)))),y8,y9]):=by
 obtain⟨δ',e,y8,y9,hy⟩:=Zeq (tg:=Zq 8) (body:=Gen.Z4) (P:=fun i δ=>∃y8 y9,δ=[some (.fz (.int x)),a1,some (.fz (.str LT22)),a3,some (.fz (.int at')),a5,some (.fz (.int (t:Int))),some (.fz (.str (S (nmL x at' i t)))),y8,y9]) size 0 [some (.fz (.int x)),a1,some (.fz (.str LT22)),a3,some (.fz (.int at')),a5,some (.fz (.int (t:Int))),some (.fz (.str (S []))),x8,x9] ⟨x8,x9,rfl⟩ (fun i _ hi δ ⟨y8,y9,hy⟩=>by
  subst hy
  obtain⟨z9,e⟩:=Zoy a1 a3 a5 x at' t i (by omega) (nmL x at' i t) (by unfold nmL;simp;omega) y9
  refine⟨[some (.fz (.int x)),a1,some (.fz (.str LT22)),a3,some (.fz (.int at')),a5,some (.fz (.int (t:Int))),some (.fz (.str (S (nmL x at' i t)))),some (.fz (.int (i:Int))),y9],_,by simp,e,some (.fz (.int (i:Int))),z9,?_⟩
  have:nmL x at' (i+1) t=nmL x at' i t++[sgn x at' t i]:=by unfold nmL;rw[List.range_succ,List.map_append];rfl
  rw[this])
 subst hy
 rw[Nat.zero_add]at e
 exact⟨y8,y9,e⟩
noncomputable def Za9(x at':Int)(size m:Nat):List Str:=(List.range m).map fun t=>S (nmL x at' size t)
theorem Zlx(a1:Option SV)(x at':Int)(size:Nat)(hs:size≤8)(m:Nat)(hm:m≤100):
  ∃δ,forD (Zq 6) Gen.Za1 (nats 0 m) [some (.fz (.int x)),a1,some (.fz (.str LT22)),some (.fz (.int (size:Int))),some (.fz (.int at')),some (.ol []),none,none,none,none]=some (.nx δ)∧δ[5]? =some (some (.ol ((Za9 x at' size m).map D.str))):=by
 obtain⟨δ',e,y6,y7,y8,y9,hy⟩:=Zeq (tg:=Zq 6) (body:=Gen.Za1) (P:=fun i δ=>∃y6 y7 y8 y9,δ=[some (.fz (.int x)),a1,some (.fz (.str LT22)),some (.fz (.int (size:Int))),some (.fz (.int at')),some (.ol ((Za9 x at' size i).map D.str)),y6,y7,y8,y9]) m 0 [some (.fz (.int x)),a1,some (.fz (.str LT22)),some (.fz (.int (size:Int))),some (.fz (.int at')),some (.ol []),none,none,none,none] ⟨none,none,none,none,rfl⟩ (fun i _ hi δ ⟨y6,y7,y8,y9,hy⟩=>by
  subst hy
  obtain⟨z8,z9,e⟩:=Zoz a1 (some (.fz (.int (size:Int)))) (some (.ol ((Za9 x at' size i).map D.str))) x at' i size (by omega) y8 y9
  have g1:rngP (size:Int):=Zdo (by omega)
  have et:((size:Int)).toNat=size:=by omega
  have z:(Za9 x at' size i).length<PySem.sizeLine:=Zb3 (by unfold Za9;simp;omega)
  have he:Str.ofString ""=S []:=rfl
  have hr:Za9 x at' size (i+1)=Za9 x at' size i++[S (nmL x at' size i)]:=by unfold Za9;rw[List.range_succ,List.map_append];rfl
  refine⟨[some (.fz (.int x)),a1,some (.fz (.str LT22)),some (.fz (.int (size:Int))),some (.fz (.int at')),some (.ol ((Za9 x at' size i).map D.str)),some (.fz (.int (i:Int))),y7,y8,y9],[some (.fz (.int x)),a1,some (.fz (.str LT22)),some (.fz (.int (size:Int))),some (.fz (.int at')),some (.ol ((Za9 x at' size (i+1)).map D.str)),some (.fz (.int (i:Int))),some (.fz (.str (S (nmL x at' size i)))),z8,z9],by simp,?_,_,_,_,_,rfl⟩
  rw[hr]
  generalize Za9 x at' size i=NL at*
  unfold Gen.Za1
  simp[-forD,he,g1,et,Zc1,e,z])
 subst hy
 rw[Nat.zero_add]at e
 exact⟨_,e,rfl⟩
structure Nm(w:List Nat):Prop where
 one:1≤w.length
 most:w.length≤8
 is:∀c∈w,97≤c∧c≤122∧c≠105∧c≠107∧c≠110∧c≠111
theorem Zgg(x:Int)(h0:0≤x)(m:Nat)(hm:m≤20):∃ws:List (List Nat),Gen.Z1 [.int x,.int (m:Int)]=some (.ol (ws.map fun w=>D.str (S w)))∧ws.length=m∧ws.Nodup∧∀w∈ws,Nm w:=by
 have s0:0≤x % 8:=Int.emod_nonneg _ (by decide)
 have s1:x % 8<8:=Int.emod_lt_of_pos _ (by decide)
 obtain⟨size,hs⟩:∃n:Nat,(n:Int)=1+x % 8:=⟨(1+x % 8).toNat,by omega⟩
 have hs1:1≤size:=by omega
 have hs8:size≤8:=by omega
 have p0:(0:Int)<(size:Int):=by omega
 have a0:0≤x / 8 % (size:Int):=Int.emod_nonneg _ (by omega)
 have a1:x / 8 % (size:Int)<(size:Int):=Int.emod_lt_of_pos _ p0
 generalize hat:x / 8 % (size:Int)=at' at a0 a1
 obtain⟨δ,e,hδ⟩:=Zlx (some (.fz (.int (m:Int)))) x at' size hs8 m (by omega)
 have g1:rngP (m:Int):=Zdo (by omega)
 have et:((m:Int)).toNat=m:=by omega
 have en:(Za9 x at' size m).map D.str=((List.range m).map (nmL x at' size)).map fun w=>D.str (S w):=by
  unfold Za9;rw[List.map_map,List.map_map];rfl
 refine⟨(List.range m).map (nmL x at' size),?_,by simp,?_,fun w hw=>?_⟩
 ·rw[←en]
  generalize Za9 x at' size m=NL at hδ
  unfold Gen.Z1 Gen.Zcp
  have hs0:0<size:=by omega
  simp[-forD,←hs,p0,hs0,hat,g1,et,Zc1,e,hδ]
 ·refine List.Pairwise.map _ (R:=fun a b=>a≠b∧a<m∧b<m) (fun a b h=>?_) ?_
  ·intro z
   obtain⟨hne,ha,hb⟩:=h
   have hl:=z
   obtain⟨k,hk⟩:=Int.eq_ofNat_of_zero_le a0
   have hks:k<size:=by omega
   have e1:(nmL x at' size a)[k]? =some (sgn x at' a k):=by unfold nmL;rw[List.getElem?_map,List.getElem?_range hks];rfl
   have e2:(nmL x at' size b)[k]? =some (sgn x at' b k):=by unfold nmL;rw[List.getElem?_map,List.getElem?_range hks];rfl
   rw[hl,e2]at e1
   have e3:=Option.some.inj e1
   unfold sgn at e3
   rw[if_pos hk.symm]at e3
   have q:=fun y:Int=>(Int.emod_nonneg y (show(22:Int)≠0 by decide))
   have q':=fun y:Int=>(Int.emod_lt_of_pos y (show(0:Int)<22 by decide))
   have r1:=q (x / ((k:Int)+2)+(a:Int)*1)
   have r2:=q' (x / ((k:Int)+2)+(a:Int)*1)
   have r3:=q (x / ((k:Int)+2)+(b:Int)*1)
   have r4:=q' (x / ((k:Int)+2)+(b:Int)*1)
   have e4:=Zx8 _ (by omega) _ (by omega) e3
   generalize x / ((k:Int)+2)=y at*
   omega
  ·have nd:(List.range m).Pairwise (fun a b=>a<b):=List.pairwise_lt_range
   refine(List.Pairwise.and_mem.mp nd).imp fun{a b} h=>?_
   exact⟨Nat.ne_of_lt h.2.2,List.mem_range.mp h.1,List.mem_range.mp h.2.1⟩
 ·obtain⟨t,_,rfl⟩:=List.mem_map.mp hw
  have hl:(nmL x at' size t).length=size:=by unfold nmL;simp
  refine⟨by rw[hl];exact hs1,by rw[hl];exact hs8,fun c hc=>?_⟩
  unfold nmL at hc
  obtain⟨k,_,rfl⟩:=List.mem_map.mp hc
  have r1:=Int.emod_nonneg (x / ((k:Int)+2)+(t:Int)*(if(k:Int)=at' then 1 else 0)) (show(22:Int)≠0 by decide)
  have r2:=Int.emod_lt_of_pos (x / ((k:Int)+2)+(t:Int)*(if(k:Int)=at' then 1 else 0)) (show(0:Int)<22 by decide)
  exact Z1i _ (by omega)
theorem Zdt(c:Int)(b:Int)(hb:-(2^64)<b∧b<2^64):Gen.Zab [.int c,.int b]=some (.fz (.int (c % 2147483647*b % 2147483647))):=by
 have hm:=Zkc (i:=c % 2147483647) (j:=b) hb
 unfold Gen.Zab Gen.Zcs
 simp[hm]
theorem Zgh(c b:Int):0≤c % 2147483647*b % 2147483647:=Int.emod_nonneg _ (by decide)
end My
namespace My
open DL PySem
noncomputable abbrev PLS : Str := "ABCDEFGHIJKLMNOPQRSTUVWXYZabcdefghijklmnopqrstuvwxyz0123456789 .,!?'-/()&+*="
noncomputable abbrev STS : Str := "ABCDEFGHIJKLMNOPQRSTUVWXYZabcdefghijklmnopqrstuvwxyz0123456789 .,!?'-/()&+*=:;"
noncomputable abbrev ABC:Str:="abcdefghijklmnopqrstuvwxyz"
noncomputable def abc(c:Nat):Bool:=Nat.ble 97 c&&Nat.ble c 122
noncomputable def pls(c:Nat):Bool:=(Nat.ble 65 c&&Nat.ble c 90)||abc c|| (Nat.ble 39 c&&Nat.ble c 57)|| [32,33,38,61,63].contains c
noncomputable def sts(c:Nat):Bool:=pls c|| [58,59].contains c
theorem Zx9:∀c<128,inS ⟨#[c]⟩ ABC=abc c:=by decide+kernel
theorem Zya:∀c<128,inS ⟨#[c]⟩ PLS=pls c:=by decide+kernel
theorem Zyb:∀c<128,inS ⟨#[c]⟩ STS=sts c:=by decide+kernel
noncomputable def Asc(l:List Nat):Prop:=∀c∈l,c<128
theorem Zh8(f:Nat→Bool):∀l:List Nat,bools? (l.map fun c=>D.bl (f c))=some (l.map f)
 | []=>rfl
 |x::r=>by simp[Zh8 f r]
noncomputable def sgf(sg:Str)(d:D):D:=match d with
 | .str x=>.bl (inS x sg)
 |d=>d
theorem Zyc(sg:Str)(f:Nat→Bool)(l:List Nat)(hin:∀c<128,inS ⟨#[c]⟩ sg=f c)(ha:Asc l)(hl:l.length≤2000000):Gen.Zaj [.str (S l),.str sg]=some (.fz (.bl (l.all f))):=by
 have c:=Zkm (te:=Gen.Zbu) (f:=sgf sg) (c:=some (.fz (.str sg))) (j:=1) (signs (S l)) [] (fun x hx zs=>by
  unfold signs at hx
  obtain⟨k,hk,rfl⟩:=List.mem_map.mp hx
  unfold Gen.Zbu sgf
  simp[-inS]) (by unfold signs;rw[List.length_map,Zr,Z9];simp;omega)
 rw[List.nil_append]at c
 have e:(signs (S l)).map (sgf sg)=l.map fun c=>D.bl (f c):=by
  unfold signs
  rw[List.map_map,Za8]
  refine List.map_congr_left fun k hk=>?_
  show D.bl (inS ⟨#[k]⟩ sg)=_
  rw[hin k (ha k hk)]
 rw[e]at c
 have s:=Zh8 f l
 have sa:(l.map f).all id=l.all f:=by simp
 unfold Gen.Zaj Gen.Zcq
 simp[c,s]
noncomputable abbrev NT:Exn:=⟨"NoText",[],[]⟩
noncomputable def rn(r:List Nat):List D:=if r=[]then[]else[.str (S r)]
theorem Zyd:S []=Str.empty:=rfl
theorem Zsf(sg:Str)(f:Nat→Bool)(l:List Nat)(m:Nat)(hin:∀c<128,inS ⟨#[c]⟩ sg=f c)(ha:Asc l)(hl:l.length≤100000):Gen.Zaa [.str (S l),.str sg,.int (m:Int)]=some (.fz (.bl (decide (1≤l.length∧l.length≤m)&&l.all f))):=by
 have a:=Zyc sg f l hin ha (by omega)
 have z:(S l).length≤PySem.sizeLine:=Z0 (by rw[Z9];omega)
 rw[Z9]at z
 generalize l.all f=b at*
 unfold Gen.Zaa Gen.Zca
 by_cases h1:1≤l.length
 ·by_cases h2:l.length≤m
  ·have a1:(1:Int)≤(l.length:Int):=by omega
   have a2:(l.length:Int)≤(m:Int):=by omega
   simp[Z9,z,a1,a2,h1,h2,a]
  ·have a1:(1:Int)≤(l.length:Int):=by omega
   have a2:¬(l.length:Int)≤(m:Int):=by omega
   simp[Z9,z,a1,a2,h1,h2,a]
 ·have a1:¬(1:Int)≤(l.length:Int):=by omega
  simp[Z9,z,a1,h1,a]
noncomputable def Zgi(l:List Nat):Bool:=decide (1≤l.length∧l.length≤8)&&l.all abc
noncomputable def Zfi(l:List Nat):Bool:=decide (1≤l.length∧l.length≤80)&&l.all pls
theorem Zo0(l:List Nat)(ha:Asc l)(hl:l.length≤100000):Gen.Zav [.str (S l)]=some (.fz (.bl (Zgi l))):=by
 have a:=Zsf ABC abc l 8 Zx9 ha hl
 have i8:((8:Nat):Int)=8:=rfl
 rw[i8]at a
 unfold Gen.Zav Gen.Zet Zgi
 generalize (decide (1≤l.length∧l.length≤8)&&l.all abc)=b at*
 simp[a]
theorem Zuq(l:List Nat)(ha:Asc l)(hl:l.length≤100000):Gen.Zbh [.str (S l)]=some (.fz (.bl (Zfi l))):=by
 have a:=Zsf PLS pls l 80 Zya ha hl
 have i8:((80:Nat):Int)=80:=rfl
 rw[i8]at a
 unfold Gen.Zbh Gen.Zdh Zfi
 generalize (decide (1≤l.length∧l.length≤80)&&l.all pls)=b at*
 simp[a]
noncomputable def cutC(c:Nat):List Nat→List Nat×Option (List Nat)
 | []=>([],none)
 |x::r=>if x=c then([],some r)else let p:=cutC c r;(x::p.1,p.2)
theorem Zku(c:Nat):∀l:List Nat,c∉(cutC c l).1
 | []=>by simp[cutC]
 |x::r=>by
  unfold cutC
  by_cases h:x=c
  ·rw[if_pos h];simp
  ·rw[if_neg h]
   have:=Zku c r
   show c∉x::(cutC c r).1
   rw[List.mem_cons,not_or]
   exact⟨fun e=>h e.symm,this⟩
theorem Zjg(c:Nat):∀l:List Nat,l=(cutC c l).1++(match(cutC c l).2 with|none=>[]|some r=>c::r)
 | []=>rfl
 |x::r=>by
  have ih:=Zjg c r
  unfold cutC
  by_cases h:x=c
  ·rw[if_pos h,h];rfl
  ·rw[if_neg h]
   show x::r=x::((cutC c r).1++(match(cutC c r).2 with|none=>[]|some r=>c::r))
   rw[←ih]
theorem Zkv(c:Nat)(l:List Nat):Txt.partition (S l) (S [c])=(S (cutC c l).1,(match(cutC c l).2 with|none=>S []|some _=>S [c]),(match(cutC c l).2 with|none=>S []|some r=>S r)):=by
 have h1:=Zku c l
 have h2:=Zjg c l
 generalize cutC c l=p at*
 obtain⟨a,o⟩:=p
 cases o with
 |none=>
  rw[List.append_nil]at h2
  subst h2
  exact Zq5 (Zjb c) (S l) (by rw[Za8];exact h1)
 |some r=>
  subst h2
  have:=Zlp c (S a) (S r) (by rw[Za8];exact h1)
  rw[Zbg,Zbg]at this
  rw[←this]
  simp
theorem Asc.app{a b:List Nat}(h:Asc (a++b)):Asc a∧Asc b:=⟨fun c hc=>h c (List.mem_append_left _ hc),fun c hc=>h c (List.mem_append_right _ hc)⟩
theorem Zjh{c:Nat}{l:List Nat}(h:Asc l):Asc (cutC c l).1∧(cutC c l).1.length≤l.length∧∀r,(cutC c l).2=some r→Asc r∧r.length≤l.length:=by
 have h2:=Zjg c l
 generalize cutC c l=p at*
 obtain⟨a,o⟩:=p
 cases o with
 |none=>
  rw[List.append_nil]at h2
  subst h2
  exact⟨h,Nat.le_refl _,fun r z=>nomatch z⟩
 |some r=>
  subst h2
  obtain⟨x,y⟩:=h.app
  refine⟨x,by simp,fun r' z=>?_⟩
  cases z
  exact⟨fun c hc=>y c (List.mem_cons_of_mem _ hc),by simp;omega⟩
end My
namespace My
open DL PySem
noncomputable def sp:List Nat→List Nat×List (List Nat)
 | []=>([],[])
 |c::t=>if c=60 then([],(sp t).1::(sp t).2)else(c::(sp t).1,(sp t).2)
theorem Zye:∀t:List Nat,t=(sp t).1++(sp t).2.flatMap fun x=>60::x
 | []=>rfl
 |c::t=>by
  have ih:=Zye t
  unfold sp
  by_cases h:c=60
  ·rw[if_pos h,h]
   show 60::t=[]++((sp t).1::(sp t).2).flatMap fun x=>60::x
   rw[List.flatMap_cons,List.nil_append,List.cons_append,←ih]
  ·rw[if_neg h]
   show c::t=c::(sp t).1++_
   rw[List.cons_append,←ih]
theorem Zsg:∀t:List Nat,60∉(sp t).1∧∀x∈(sp t).2,60∉x
 | []=>by simp[sp]
 |c::t=>by
  obtain⟨h1,h2⟩:=Zsg t
  unfold sp
  by_cases h:c=60
  ·rw[if_pos h]
   refine⟨by simp,fun x hx=>?_⟩
   rcases List.mem_cons.mp hx with e|e
   ·rw[e];exact h1
   ·exact h2 x e
  ·rw[if_neg h]
   refine⟨?_,h2⟩
   show 60∉c::(sp t).1
   rw[List.mem_cons,not_or]
   exact⟨fun e=>h e.symm,h1⟩
theorem Zo1:∀t:List Nat,(sp t).1.length≤t.length∧(sp t).2.length≤t.length∧∀x∈(sp t).2,x.length≤t.length
 | []=>by simp[sp]
 |c::t=>by
  obtain⟨h1,h2,h3⟩:=Zo1 t
  unfold sp
  by_cases h:c=60
  ·rw[if_pos h]
   refine⟨by simp,by simp;omega,fun x hx=>?_⟩
   rcases List.mem_cons.mp hx with e|e
   ·rw[e];simp;omega
   ·have:=h3 x e;simp;omega
  ·rw[if_neg h]
   exact⟨by simp;omega,by simp;omega,fun x hx=>by have:=h3 x hx;simp;omega⟩
theorem Zo2:∀{t:List Nat},Asc t→Asc (sp t).1∧∀x∈(sp t).2,Asc x
 | [],_=>by simp[sp,Asc]
 |c::t,ha=>by
  obtain⟨h1,h2⟩:=Zo2 (t:=t) fun k hk=>ha k (List.mem_cons_of_mem _ hk)
  unfold sp
  by_cases h:c=60
  ·rw[if_pos h]
   refine⟨by simp[Asc],fun x hx=>?_⟩
   rcases List.mem_cons.mp hx with e|e
   ·rw[e];exact h1
   ·exact h2 x e
  ·rw[if_neg h]
   refine⟨fun k hk=>?_,h2⟩
   rcases List.mem_cons.mp hk with e|e
   ·rw[e];exact ha c List.mem_cons_self
   ·exact h1 k e
noncomputable abbrev LTS:Str:="<"
theorem Zyf:LTS=S [60]:=by decide+kernel
theorem Zyg:∀r:List (List Nat),cat (r.map fun x=>S [60]++S x)=S (r.flatMap fun x=>60::x)
 | []=>rfl
 |x::r=>by
  show(S [60]++S x)++cat _=_
  rw[Zyg r,Zbg,Zbg,List.flatMap_cons]
  simp
theorem Zrb(t:List Nat):Txt.split (S t) LTS=S (sp t).1::(sp t).2.map S:=by
 obtain⟨h1,h2⟩:=Zsg t
 have e:S t=Str.join (S [60]) (S (sp t).1::(sp t).2.map S):=by
  rw[Zhw,List.map_map]
  show S t=S (sp t).1++cat ((sp t).2.map fun x=>S [60]++S x)
  rw[Zyg,Zbg]
  exact congrArg S (Zye t)
 have:=Zlo (Zjb 60) (by rw[←Zyf];decide+kernel) (S (sp t).1::(sp t).2.map S) (by simp) (fun p hp=>by
  rcases List.mem_cons.mp hp with e|hp
  ·rw[e,Za8];exact h1
  ·obtain⟨y,hy,rfl⟩:=List.mem_map.mp hp
   rw[Za8];exact h2 y hy)
 rw[←e]at this
 rw[Zyf];exact this
noncomputable def hdS(l:List Nat):List Nat:=(cutC 62 l).1
noncomputable def tlS(l:List Nat):List Nat:=(cutC 62 l).2.getD []
noncomputable def gtB(l:List Nat):Bool:=(cutC 62 l).2.isSome
theorem Zur{l:List Nat}(ha:Asc l):Asc (tlS l)∧(tlS l).length≤l.length:=by
 obtain⟨_,_,a3⟩:=Zjh (c:=62) ha
 unfold tlS
 cases ho:(cutC 62 l).2 with
 |none=>exact⟨(fun c hc=>nomatch hc),Nat.zero_le _⟩
 |some r=>exact a3 r ho
theorem Zkw(a0 a1 a2:Option SV)(cs:List D)(l:List Nat)(x5:Option SV)(hl:l.length≤1000)(hp:cs.length≤100000):
  (gtB l=true→∃y5,Gen.Za4 [a0,a1,a2,some (.ol cs),some (.fz (.str (S l))),x5]=some (.nx [a0,a1,a2,some (.ol (cs++[.str (S (hdS l)),.str (S (tlS l))])),some (.fz (.str (S l))),y5]))∧
  (gtB l=false→Gen.Za4 [a0,a1,a2,some (.ol cs),some (.fz (.str (S l))),x5]=some (.rt (.fz .non))):=by
 have hbs:Str.ofString ">"=S [62]:=by decide+kernel
 have z:(S l).length≤PySem.sizeLine:=Z0 (by rw[Z9];omega)
 rw[Z9]at z
 have hl0:¬(S [62]).length=0:=by decide+kernel
 have he:Str.ofString ""=Str.empty:=rfl
 have hne:¬S [62]=Str.empty:=by decide+kernel
 have z0:2≤PySem.sizeLine:=Z0 (by decide)
 have z2:cs.length+2≤PySem.sizeLine:=Z0 (by omega)
 have pc:=Zkv 62 l
 unfold gtB tlS hdS Gen.Za4
 cases ho:(cutC 62 l).2 with
 |none=>
  rw[ho]at pc
  dsimp only at pc⊢
  generalize (cutC 62 l).1=a at*
  refine⟨(fun h=>absurd h (by decide)),fun _=>?_⟩
  simp[Zyd,L2.atI,L2.ixN,Z9,z,hl0,hbs,pc,he]
 |some r=>
  rw[ho]at pc
  dsimp only at pc⊢
  generalize (cutC 62 l).1=a at*
  refine⟨(fun _=>?_),fun h=>absurd h (by simp)⟩
  simp[Zyd,L2.atI,L2.ixN,Z9,z,hl0,hbs,pc,he,hne,z0,z2]
noncomputable abbrev two(l:List Nat):List D:=[.str (S (hdS l)),.str (S (tlS l))]
theorem Zkx(a0 a1 a2:Option SV):∀(xs:List (List Nat)) (cs:List D) (x4 x5:Option SV),(∀x∈xs,x.length≤1000∧gtB x=true)→cs.length+2*xs.length≤100000→
  ∃y4 y5,forD (Zq 4) Gen.Za4 (xs.map fun x=>D.str (S x)) [a0,a1,a2,some (.ol cs),x4,x5]=some (.nx [a0,a1,a2,some (.ol (cs++xs.flatMap two)),y4,y5])
 | [],cs,x4,x5,_,_=>⟨x4,x5,by simp⟩
 |x::xs,cs,x4,x5,h,hl=>by
  rw[List.length_cons]at hl
  obtain⟨h2,h3⟩:=h x List.mem_cons_self
  obtain⟨y5,hb⟩:=(Zkw a0 a1 a2 cs x x5 h2 (by omega)).1 h3
  obtain⟨y4,y5',e⟩:=Zkx a0 a1 a2 xs (cs++two x) (some (.fz (.str (S x)))) y5 (fun y hy=>h y (List.mem_cons_of_mem _ hy)) (by rw[List.length_append];simp;omega)
  refine⟨y4,y5',?_⟩
  rw[List.map_cons]
  refine(Zb4 (by simp) hb).trans (e.trans ?_)
  simp
theorem Zo3(a0 a1 a2:Option SV):∀(xs:List (List Nat)) (cs:List D) (x4 x5:Option SV),(∀x∈xs,x.length≤1000)→xs.all gtB=false→cs.length+2*xs.length≤100000→
  forD (Zq 4) Gen.Za4 (xs.map fun x=>D.str (S x)) [a0,a1,a2,some (.ol cs),x4,x5]=some (.rt (.fz .non))
 | [],cs,x4,x5,_,hb,_=>by simp at hb
 |x::xs,cs,x4,x5,h,hb,hl=>by
  rw[List.length_cons]at hl
  have h2:=h x List.mem_cons_self
  have st:=Zkw a0 a1 a2 cs x x5 h2 (by omega)
  rw[List.map_cons]
  cases hx:gtB x with
  |false=>exact Zum (by simp) (st.2 hx)
  |true=>
   obtain⟨y5,e1⟩:=st.1 hx
   have hb':xs.all gtB=false:=by rw[List.all_cons,hx]at hb;exact hb
   exact(Zb4 (by simp) e1).trans (Zo3 a0 a1 a2 xs (cs++two x) (some (.fz (.str (S x)))) y5 (fun y hy=>h y (List.mem_cons_of_mem _ hy)) hb' (by rw[List.length_append];simp;omega))
theorem Zky:∀ls:List (List Nat),cat (ls.map S)=S ls.flatten
 | []=>rfl
 |l::ls=>by
  show S l++cat (ls.map S)=_
  rw[Zky ls,Zbg];rfl
theorem Zkz(f:Nat→Bool):∀ls:List (List Nat),ls.flatten.all f=ls.all fun l=>l.all f
 | []=>rfl
 |l::ls=>by rw[List.flatten_cons,List.all_append,Zkz f ls];rfl
noncomputable def okA(t:List Nat):Bool:=(sp t).2.all gtB&&((sp t).1::(sp t).2.map tlS).all fun l=>l.all sts
noncomputable abbrev Zly(t:List Nat):List D:=.str (S (sp t).1)::(sp t).2.flatMap two
theorem Zo4{B:Nat}:∀ls:List (List Nat),(∀l∈ls,l.length≤B)→ls.flatten.length≤ls.length*B
 | [],_=>Nat.zero_le _
 |l::ls,h=>by
  have:=Zo4 ls fun x hx=>h x (List.mem_cons_of_mem _ hx)
  have:=h l List.mem_cons_self
  rw[List.flatten_cons,List.length_append,List.length_cons,Nat.succ_mul];omega
theorem Zo5(t:List Nat)(ha:Asc t)(hl:t.length≤1000):Gen.Zc4 [.str (S t),.str STS]=some (if okA t=true then .ol (Zly t)else .fz .non):=by
 have spl:=Zrb t
 obtain⟨l1,l2,l3⟩:=Zo1 t
 obtain⟨c1,c2⟩:=Zo2 ha
 have z:(S t).length≤PySem.sizeLine:=Z0 (by rw[Z9];omega)
 rw[Z9]at z
 have hl0:¬LTS.length=0:=by decide+kernel
 have hh:Str.ofString "<"=LTS:=rfl
 have z1:1≤PySem.sizeLine:=Z0 (by decide)
 have z1':(sp t).2.length+1≤PySem.sizeLine:=Z0 (by omega)
 have mm:((sp t).2.map S).map D.str=(sp t).2.map fun x=>D.str (S x):=by rw[List.map_map];rfl
 have ag:=Zkx (some (.fz (.str (S t)))) (some (.fz (.str STS))) (some (.ol (.str (S (sp t).1)::(sp t).2.map fun x=>D.str (S x)))) (sp t).2 [.str (S (sp t).1)] none none
 have ab:=Zo3 (some (.fz (.str (S t)))) (some (.fz (.str STS))) (some (.ol (.str (S (sp t).1)::(sp t).2.map fun x=>D.str (S x)))) (sp t).2 [.str (S (sp t).1)] none none (fun x hx=>by have:=l3 x hx;omega)
 have gd:∀x∈(sp t).2,(sp t).2.all gtB=true→gtB x=true:=fun x hx h=>List.all_eq_true.mp h x hx
 have ac:∀x∈(sp t).2,Asc x∧x.length≤1000:=fun x hx=>⟨c2 x hx,by have:=l3 x hx;omega⟩
 have cu:cutD (.str (S (sp t).1)::(sp t).2.map fun x=>D.str (S x)) (some 1) none=(sp t).2.map fun x=>D.str (S x):=by
  have:=Zq6 (.str (S (sp t).1)::(sp t).2.map fun x=>D.str (S x)) 1 (by simp)
  exact this
 have a0:L2.atI (.str (S (sp t).1)::(sp t).2.map fun x=>D.str (S x)) 0=some (.str (S (sp t).1)):=Zhu _ 0 _ rfl
 have er:∀x∈(sp t).1::(sp t).2.map tlS,Asc x∧x.length≤1000:=fun x hx=>by
  rcases List.mem_cons.mp hx with e|hx
  ·rw[e];exact⟨c1,by omega⟩
  ·obtain⟨y,hy,rfl⟩:=List.mem_map.mp hx
   have h1:=Zur (ac y hy).1
   have h2:=(ac y hy).2
   exact⟨h1.1,by omega⟩
 have pk:L2.Zb2 (Zly t) none none (some 2)=(((sp t).1::(sp t).2.map tlS).map S).map D.str:=by
  rw[Zq9]
  have:=Zow (fun l=>D.str (S (hdS l))) (fun l=>D.str (S (tlS l))) (.str (S (sp t).1)) (sp t).2
  refine this.trans ?_
  simp
 have fl:=Zo4 ((sp t).1::(sp t).2.map tlS) (fun x hx=>(er x hx).2)
 have al:=Zyc STS sts ((sp t).1::(sp t).2.map tlS).flatten Zyb (fun c hc=>by
  obtain⟨x,hx,hc⟩:=List.mem_flatten.mp hc
  exact(er x hx).1 c hc) (by simp only[List.length_cons,List.length_map]at fl;omega)
 rw[Zkz]at al
 have ss:=Zf5 (((sp t).1::(sp t).2.map tlS).map S)
 have jo:JoinOk (Str.ofString "") (((sp t).1::(sp t).2.map tlS).map S)=true:=Zsc (B:=1000) (fun x hx=>by
  obtain⟨y,hy,rfl⟩:=List.mem_map.mp hx
  rw[Z9];exact(er y hy).2) (by
  have e0:(Str.ofString "").length=0:=by decide+kernel
  rw[e0];simp only[List.length_cons,List.length_map];omega)
 have jn:Txt.join (Str.ofString "") (((sp t).1::(sp t).2.map tlS).map S)=S ((sp t).1::(sp t).2.map tlS).flatten:=(Zx2 _).trans (Zky _)
 unfold okA
 have cc:[.str (S (sp t).1)]++(sp t).2.flatMap two=Zly t:=rfl
 rw[cc]at ag
 generalize Zly t=cs at*
 generalize (sp t).1::(sp t).2.map tlS=rs at*
 unfold Gen.Zc4 Gen.Zf9
 generalize (sp t).2=segs at*
 generalize (sp t).1=r0 at*
 cases hs:segs.all gtB with
 |false=>
  have e:=ab hs (by simp;omega)
  simp[-forD,-List.map_map,mm,hh,spl,Z9,z,z1,z1',hl0,cu,a0,e]
 |true=>
  obtain⟨y4,y5,e⟩:=ag (fun x hx=>⟨(ac x hx).2,gd x hx hs⟩) (by simp;omega)
  generalize (rs.all fun l=>l.all sts)=b at*
  cases b with
  |true=>simp[-forD,-List.map_map,mm,hh,spl,Z9,z,z1,z1',hl0,cu,a0,e,pk,ss,jo,jn,al]
  |false=>simp[-forD,-List.map_map,mm,hh,spl,Z9,z,z1,z1',hl0,cu,a0,e,pk,ss,jo,jn,al]
end My
namespace My
open DL PySem
theorem Zrc{α:Type}(b:α)(ys:List α):L2.Zb2 (b::ys) (some 1) none (some 2)=ev ys:=by
 unfold L2.Zb2
 have e1:(PySem.sliceBounds (some 1) none (some 2) (b::ys).length)=(1,((ys.length+1:Nat):Int),2):=by
  rw[List.length_cons]
  unfold PySem.sliceBounds
  simp
  omega
 rw[e1]
 dsimp only
 have e2:PySem.sliceRange 1 ((ys.length+1:Nat):Int) 2=((List.range ((ys.length+1) / 2)).map fun k=>2*k).map fun k=>k+1:=by
  unfold PySem.sliceRange
  rw[if_pos (by decide)]
  by_cases h:ys.length=0
  ·rw[h];rfl
  ·rw[if_pos (by omega)]
   dsimp only
   rw[show(((ys.length+1:Nat):Int)- 1+2- 1) / 2=(((ys.length+1) / 2:Nat):Int) by omega,Int.toNat_natCast,List.map_map]
   refine List.map_congr_left fun k _=>?_
   show(1+2*(k:Int)).toNat=2*k+1
   omega
 rw[e2,List.filterMap_map]
 have e3:((fun x:Nat=>(b::ys)[x]?)∘fun k=>k+1)=fun x=>ys[x]?:=by
  funext k;rfl
 rw[e3]
 exact Zjc _ ys (by omega)
noncomputable abbrev Zez:List Nat:=[110,111,116,101]
noncomputable abbrev Ze0:List Nat:=[107,105,110,100]
noncomputable def nmOf(m:List Nat):List Nat:=(cutC 61 m).1
noncomputable def txOf(m:List Nat):List Nat:=(cutC 61 m).2.getD []
noncomputable def mkB(a b:List Nat):Bool:=Zgi a&&(!(a==Zez||a==Ze0)&&Zfi b)
theorem Zsh:Str.ofString "note"=S Zez:=by decide+kernel
theorem Zsi:Str.ofString "kind"=S Ze0:=by decide+kernel
theorem z2:2≤PySem.sizeLine:=Z0 (by decide)
theorem Zyh(a b:List Nat):decide (S a=S b)=(a==b):=by
 by_cases h:a=b
 ·rw[h];simp
 ·rw[decide_eq_false (S_ne h),beq_eq_false_iff_ne.mpr h]
theorem Zyi(a b:List Nat)(ha:Asc a)(hb:Asc b)(la:a.length≤1000)(lb:b.length≤1000):Gen.Zcb [.str (S a),.str (S b)]=some (.fz (.bl (mkB a b))):=by
 have h1:=Zo0 a ha (by omega)
 have h2:=Zuq b hb (by omega)
 have q:inFl (.str (S a)) [.str (S Zez),.str (S Ze0)]=(a==Zez||a==Ze0):=by
  show(eqFl (.str (S Zez)) (.str (S a))|| (eqFl (.str (S Ze0)) (.str (S a))||false))=_
  rw[Zka,Zka,Zyh,Zyh,Bool.or_false]
  rw[show(Zez==a)=(a==Zez)from BEq.comm,show(Ze0==a)=(a==Ze0)from BEq.comm]
 unfold mkB
 generalize (a==Zez||a==Ze0)=c at*
 generalize Zgi a=x at*
 generalize Zfi b=y at*
 unfold Gen.Zcb Gen.Zeu
 cases x with
 |false=>simp[-inFl,h1]
 |true=>
  cases c with
  |true=>simp[-inFl,h1,z2,Zsh,Zsi,q,D.seq?]
  |false=>simp[-inFl,h1,h2,z2,Zsh,Zsi,q,D.seq?]
theorem Zus(m:List Nat):∃c,Txt.partition (S m) (S [61])=(S (nmOf m),c,S (txOf m)):=by
 have:=Zkv 61 m
 rw[this]
 unfold nmOf txOf
 cases(cutC 61 m).2 with
 |none=>exact⟨_,rfl⟩
 |some r=>exact⟨_,rfl⟩
theorem Zyj{m:List Nat}(h:Asc m)(hl:m.length≤1000):Asc (nmOf m)∧Asc (txOf m)∧(nmOf m).length≤1000∧(txOf m).length≤1000:=by
 obtain⟨a1,a2,a3⟩:=Zjh (c:=61) h
 unfold nmOf txOf
 cases ho:(cutC 61 m).2 with
 |none=>exact⟨a1,(fun c hc=>nomatch hc),by omega,Nat.zero_le _⟩
 |some r=>exact⟨a1,(a3 r ho).1,by omega,by have:=(a3 r ho).2;show r.length≤1000;omega⟩
structure Tx(xs:List Str)(vs:List D):Prop where
 dic:Dic xs vs
 txt:∀v∈vs,∃y,v= .str (S y)
 few:vs.length≤1000
theorem eq_S:Str.ofString "="=S [61]:=by decide+kernel
theorem t3a(x y z:D):L2.atI [x,y,z] 0=some x:=rfl
theorem t3c(x y z:D):L2.atI [x,y,z] 2=some z:=rfl
theorem Zo6(A:Option SV)(m:List Nat)(ha:Asc m)(hl:m.length≤1000)(xs:List Str)(vs:List D)(h:Tx xs vs)(hf:vs.length<1000)(x3:Option SV):
  (Gen.Zw [A,some (.oK (inrs xs) vs),some (.fz (.str (S m))),x3]=some (.rt (.fz .non))∧(mkB (nmOf m) (txOf m)=false∨∃y,look xs vs (S (nmOf m))=some (.str (S y))∧y≠txOf m))∨
  (mkB (nmOf m) (txOf m)=true∧(∀y,look xs vs (S (nmOf m))=some (.str (S y))→y=txOf m)∧∃y3,Gen.Zw [A,some (.oK (inrs xs) vs),some (.fz (.str (S m))),x3]=some (.nx [A,some (.oK (inrs (putA xs vs (S (nmOf m)) (.str (S (txOf m)))).1) (putA xs vs (S (nmOf m)) (.str (S (txOf m)))).2),some (.fz (.str (S m))),y3])):=by
 obtain⟨c,pe⟩:=Zus m
 obtain⟨q1,q2,q3,q4⟩:=Zyj ha hl
 have im:=Zyi (nmOf m) (txOf m) q1 q2 q3 q4
 have z:m.length≤PySem.sizeLine:=Z0 (by omega)
 have h0:¬(S [61]).length=0:=by decide+kernel
 have li:=Zc2 (S (nmOf m)) xs vs
 have pi:=Zds (S (nmOf m)) (.str (S (txOf m))) xs vs
 have pl:=Zep (S (nmOf m)) (.str (S (txOf m))) xs vs h.dic.len
 have zl:vs.length<PySem.sizeLine:=Zb3 (by omega)
 generalize putA xs vs (S (nmOf m)) (.str (S (txOf m)))=P at*
 obtain⟨P1,P2⟩:=P
 cases hb:mkB (nmOf m) (txOf m)with
 |false=>
  rw[hb]at im
  refine .inl ⟨?_,.inl rfl⟩
  generalize S (nmOf m)=N at*
  generalize S (txOf m)=T at*
  unfold Gen.Zw
  simp[-look,-putA,Z9,z,eq_S,h0,pe,t3a,t3c,im]
 |true=>
  rw[hb]at im
  cases ho:look xs vs (S (nmOf m))with
  |none=>
   rw[ho]at li
   refine .inr ⟨rfl,(fun y hy=>nomatch hy),some (.fz (.tup [.str (S (nmOf m)),.str c,.str (S (txOf m))])),?_⟩
   generalize S (nmOf m)=N at*
   generalize S (txOf m)=T at*
   unfold Gen.Zw
   simp[-look,-putA,Z9,z,eq_S,h0,pe,t3a,t3c,im,li,pi,zl]
  |some d=>
   obtain⟨y,rfl⟩:=h.txt d (Zkr ho)
   rw[ho]at li
   by_cases hy:y=txOf m
   ·refine .inr ⟨rfl,(fun y' hy'=>by injection hy' with hy';injection hy' with hy';rw[←Zja hy'];exact hy),some (.fz (.tup [.str (S (nmOf m)),.str c,.str (S (txOf m))])),?_⟩
    rw[hy]at li
    generalize S (nmOf m)=N at*
    generalize S (txOf m)=T at*
    unfold Gen.Zw
    simp[-look,-putA,Z9,z,eq_S,h0,pe,t3a,t3c,im,li,pi,zl]
   ·refine .inl ⟨?_,.inr ⟨y,rfl,hy⟩⟩
    have hne:¬S y=S (txOf m):=S_ne hy
    generalize S (nmOf m)=N at*
    generalize S (txOf m)=T at*
    unfold Gen.Zw
    simp[-look,-putA,Z9,z,eq_S,h0,pe,t3a,t3c,im,li,hne]
theorem Tx.put{xs:List Str}{vs:List D}(h:Tx xs vs)(hf:vs.length<1000)(k:Str)(y:List Nat):Tx (putA xs vs k (.str (S y))).1 (putA xs vs k (.str (S y))).2:=by
 refine⟨h.dic.put k _,fun v hv=>?_,by have:=(Zep k (.str (S y)) xs vs h.dic.len).2;omega⟩
 rcases Zhx k _ xs vs v hv with z|z
 ·exact⟨y,z⟩
 ·exact h.txt v z
noncomputable abbrev mksD(ms:List (List Nat)):List D:=ms.map fun m=>D.str (S m)
noncomputable def putM(p:List Str×List D)(m:List Nat):List Str×List D:=putA p.1 p.2 (S (nmOf m)) (.str (S (txOf m)))
noncomputable def Zji(ms:List (List Nat))(p:List Str×List D):List Str×List D:=ms.foldl putM p
theorem Zfj(A:Option SV)(G:List Nat→List Nat):∀(ms:List (List Nat)) (xs:List Str) (vs:List D) (x2 x3:Option SV),(∀m∈ms,Asc m∧m.length≤1000)→Tx xs vs→vs.length+ms.length≤900→(∀m∈ms,mkB (nmOf m) (txOf m)=true∧txOf m=G (nmOf m))→(∀k y,look xs vs (S k)=some (.str (S y))→y=G k)→
  ∃y2 y3,forD (Zq 2) Gen.Zw (mksD ms) [A,some (.oK (inrs xs) vs),x2,x3]=some (.nx [A,some (.oK (inrs (Zji ms (xs,vs)).1) (Zji ms (xs,vs)).2),y2,y3])
 | [],xs,vs,x2,x3,_,ht,_,_,_=>⟨x2,x3,rfl⟩
 |m::ms,xs,vs,x2,x3,ha,ht,hl,hb,hG=>by
  obtain⟨a1,a2⟩:=ha m List.mem_cons_self
  obtain⟨b1,b2⟩:=hb m List.mem_cons_self
  rw[List.length_cons]at hl
  have run:(Zq 2).run (.str (S m)) [A,some (.oK (inrs xs) vs),x2,x3]=some [A,some (.oK (inrs xs) vs),some (.fz (.str (S m))),x3]:=by simp
  rcases Zo6 A m a1 a2 xs vs ht (by omega) x3 with⟨_,g|⟨y,hy,hn⟩⟩|⟨g,g2,y3,e⟩
  ·rw[b1]at g;cases g
  ·exact absurd (by rw[hG _ _ hy,b2]) hn
  ·have pl:=(Zep (S (nmOf m)) (.str (S (txOf m))) xs vs ht.dic.len).2
   obtain⟨y2,y3',k2⟩:=Zfj A G ms _ _ (some (.fz (.str (S m)))) y3 (fun x hx=>ha x (List.mem_cons_of_mem _ hx)) (ht.put (by omega) (S (nmOf m)) (txOf m)) (by omega) (fun x hx=>hb x (List.mem_cons_of_mem _ hx)) (fun k y hy=>by
    rw[Zf7 _ _ _ _ _ ht.dic.len]at hy
    by_cases hk:S (nmOf m)=S k
    ·rw[if_pos hk]at hy
     injection hy with hy;injection hy with hy
     rw[←Zja hy,←Zja hk,b2]
    ·rw[if_neg hk]at hy;exact hG k y hy)
   exact⟨y2,y3',(Zb4 run e).trans k2⟩
theorem Tx.nil:Tx [] []:=⟨⟨List.nodup_nil,rfl⟩,(fun _ h=>nomatch h),Nat.zero_le _⟩
theorem Zh9(G:List Nat→List Nat){ms:List (List Nat)}(ha:∀m∈ms,Asc m∧m.length≤1000)(hl:ms.length≤900)(h:∀m∈ms,mkB (nmOf m) (txOf m)=true∧txOf m=G (nmOf m)){xs:List Str}{vs:List D}(hf:Zji ms ([],[])=(xs,vs)):Gen.Zaw [.lst (mksD ms)]=some (.oK (inrs xs) vs):=by
 obtain⟨y2,y3,e⟩:=Zfj (some (.fz (.lst (mksD ms)))) G ms [] [] none none ha Tx.nil (by simpa using hl) h (fun k y hy=>by simp at hy)
 have e0:(inrs []:List L2.Key)=[]:=rfl
 rw[e0,hf]at e
 dsimp only at e
 generalize mksD ms=C at*
 unfold Gen.Zaw Gen.Zcc
 simp[-forD,e]
end My
namespace My
open DL PySem
noncomputable def spl(c:Nat):List Nat→List (List Nat)
 | []=>[[]]
 |a::l=>if a=c then[]::spl c l else match spl c l with
  |p::r=>(a::p)::r
  | []=>[[a]]
theorem Zjj(c:Nat)(l:List Nat):∀p:List Nat,c∉p→spl c (p++c::l)=p::spl c l
 | [],_=>by
  show spl c (c::l)=_
  rw[spl,if_pos rfl]
 |a::p,h=>by
  have e:=Zjj c l p fun z=>h (List.mem_cons_of_mem _ z)
  have n:¬a=c:=fun z=>h (by rw[z];exact List.mem_cons_self)
  show spl c (a::(p++c::l))=_
  rw[spl,if_neg n,e]
theorem Zdu(c:Nat):∀l:List Nat,spl c l≠[]∧(∀p∈spl c l,c∉p)∧jl [c] (spl c l)=l
 | []=>⟨by simp[spl],by simp[spl],rfl⟩
 |a::l=>by
  obtain⟨h0,h1,h2⟩:=Zdu c l
  unfold spl
  by_cases e:a=c
  ·rw[if_pos e]
   refine⟨by simp,fun p hp=>?_,?_⟩
   ·rcases List.mem_cons.mp hp with z|z
    ·rw[z];exact fun h=>nomatch h
    ·exact h1 p z
   ·cases hs:spl c l with
    |nil=>exact absurd hs h0
    |cons q r=>
     show[]++[c]++jl [c] (q::r)=a::l
     rw[←hs,h2,e];rfl
  ·rw[if_neg e]
   cases hs:spl c l with
   |nil=>exact absurd hs h0
   |cons q r=>
    rw[hs]at h1 h2
    refine⟨by simp,fun p hp=>?_,?_⟩
    ·rcases List.mem_cons.mp hp with z|z
     ·rw[z]
      intro h
      rcases List.mem_cons.mp h with y|y
      ·exact e y.symm
      ·exact h1 q List.mem_cons_self y
     ·exact h1 p (List.mem_cons_of_mem _ z)
    ·cases r with
     |nil=>show a::q=a::l;rw[show q=l from h2]
     |cons q' r=>
      have h2:q++[c]++jl [c] (q'::r)=l:=h2
      show(a::q)++[c]++jl [c] (q'::r)=a::l
      rw[←h2];rfl
noncomputable def top3:List (List Nat)→List (List Nat)
 |p::q::r::s=>[p,q,jl [32] (r::s)]
 |l=>l
theorem Zo7:∀ps:List (List Nat),jl [32] (top3 ps)=jl [32] ps
 | []=>rfl
 | [_]=>rfl
 | [_,_]=>rfl
 |_::_::_::_=>rfl
theorem Zut:∀{ps:List (List Nat)},ps≠[]→top3 ps≠[]
 | [],h=>absurd rfl h
 | [_],_=>by simp[top3]
 | [_,_],_=>by simp[top3]
 |_::_::_::_,_=>by simp[top3]
theorem Zrd:∀ps:List (List Nat),pos 1 0 (top3 ps)=(pos 1 0 ps).take 2
 | []=>rfl
 | [_]=>rfl
 | [_,_]=>rfl
 | [_,_,_]=>rfl
 |_::_::_::_::_=>rfl
noncomputable def Zaz(t:List Nat):List (List Nat):=top3 (spl 32 t)
open PySem.StrLaws in
theorem Zyk(t:List Nat):Txt.splitMax (S t) (S [32]) 2=(Zaz t).map S:=by
 obtain⟨h0,h1,h2⟩:=Zdu 32 t
 have hk:Builtin.Str.strKind (S [32])=1:=by decide+kernel
 have l1:(S [32]).length=1:=Z9 _
 have c1:(S [32]).cps.toList=[32]:=Za8 _
 have fits:Fits (S [32]).cps.toList (spl 32 t):=by rw[c1];exact Zdd _ h0 h1
 have ex:(S t).cps.toList=jl (S [32]).cps.toList (spl 32 t):=by rw[c1,h2,Za8]
 have oc:=Zf8 (S t) (S [32]) (by rw[l1];exact Nat.le_refl _) (spl 32 t) fits ex 2
 rw[l1,←Zrd]at oc
 have lim:PySem.limitOf (S t) 2=2:=rfl
 have e3:(S t).cps.toList=jl [32] (Zaz t):=by rw[Za8];unfold Zaz;rw[Zo7,h2]
 have n3:Zaz t≠[]:=Zut h0
 have oc:Builtin.Str.occurrences (S t) (S [32]) 0 (S t).length 2=pos 1 0 (Zaz t):=oc
 have one:pos 1 0 (Zaz t)=[]→[S t]=(Zaz t).map S:=fun z=>by
  rcases Zi9 z with z|⟨p,z⟩
  ·exact absurd z n3
  ·rw[z]at e3⊢
   rw[Za8]at e3
   rw[e3];rfl
 unfold Txt.splitMax
 rw[lim,oc]
 by_cases hs:(decide ((S t).length<(S [32]).length)||decide (Builtin.Str.strKind (S t)<Builtin.Str.strKind (S [32])))=true
 ·rw[if_pos hs]
  have hlt:(S t).length<1:=by
   rw[hk]at hs
   have:=Zf6 (S t)
   rcases Bool.or_eq_true_iff.mp hs with z|z
   ·have:=of_decide_eq_true z;omega
   ·have:=of_decide_eq_true z;omega
  rw[Z9]at hlt
  have ht:t=[]:=List.eq_nil_of_length_eq_zero (by omega)
  subst ht
  rfl
 ·rw[if_neg hs]
  by_cases he:(pos 1 0 (Zaz t)).isEmpty=true
  ·rw[if_pos he]
   exact one (List.isEmpty_iff.mp he)
  ·rw[if_neg he,partsBetween_eq]
   have z:=Zdr (y:=[32]) (S t) (Zaz t) 0 n3 (by rw[List.drop_zero];exact e3) (Nat.zero_le _)
   rw[l1]
   exact z
theorem Zgj{t w:List Nat}(hw:w∈Zaz t):(∀c∈w,c∈t)∧w.length≤t.length:=by
 have e:jl [32] (Zaz t)=t:=by unfold Zaz;rw[Zo7];exact(Zdu 32 t).2.2
 have h:∀(ps:List (List Nat)),w∈ps→(∀c∈w,c∈jl [32] ps)∧w.length≤(jl [32] ps).length:=by
  intro ps
  induction ps with
  |nil=>intro h;exact nomatch h
  |cons q r ih=>
   intro h
   cases r with
   |nil=>rw[List.mem_singleton.mp h];exact⟨fun _ h=>h,Nat.le_refl _⟩
   |cons q' r=>
    show(∀c∈w,c∈q++[32]++jl [32] (q'::r))∧w.length≤(q++[32]++jl [32] (q'::r)).length
    rcases List.mem_cons.mp h with z|z
    ·rw[z]
     refine⟨fun c hc=>List.mem_append_left _ (List.mem_append_left _ hc),?_⟩
     rw[List.length_append,List.length_append];omega
    ·obtain⟨a,b⟩:=ih z
     refine⟨fun c hc=>List.mem_append_right _ (a c hc),?_⟩
     rw[List.length_append];omega
 have:=h _ hw
 rw[e]at this
 exact this
noncomputable def mks(t:List Nat):List (List Nat):=(sp t).2.map hdS
theorem Zyl{t:List Nat}(ha:Asc t)(hl:t.length≤800):(∀m∈mks t,Asc m∧m.length≤1000)∧(mks t).length≤900:=by
 obtain⟨l1,l2,l3⟩:=Zo1 t
 obtain⟨c1,c2⟩:=Zo2 ha
 refine⟨fun m hm=>?_,by unfold mks;rw[List.length_map];omega⟩
 unfold mks at hm
 obtain⟨x,hx,rfl⟩:=List.mem_map.mp hm
 obtain⟨a1,a2,_⟩:=Zjh (c:=62) (c2 x hx)
 have:=l3 x hx
 exact⟨a1,by show(cutC 62 x).1.length≤1000;omega⟩
theorem Zuu(t:List Nat):L2.Zb2 (Zly t) (some 1) none (some 2)=mksD (mks t):=by
 rw[Zrc]
 have:=Zkt (fun l=>D.str (S (hdS l))) (fun l=>D.str (S (tlS l))) (sp t).2
 refine this.trans ?_
 unfold mks mksD
 rw[List.map_map];rfl
noncomputable abbrev wsD(ws:List (List Nat)):List D:=ws.map fun w=>D.str (S w)
theorem w3a(x y z:D):L2.atI [x,y,z] 0=some x:=rfl
theorem w3b(x y z:D):L2.atI [x,y,z] 1=some y:=rfl
theorem w3c(x y z:D):L2.atI [x,y,z] 2=some z:=rfl
theorem Z4a : Str.ofString "ABCDEFGHIJKLMNOPQRSTUVWXYZabcdefghijklmnopqrstuvwxyz0123456789 .,!?'-/()&+*=:;" = STS := rfl
theorem Zym(G:List Nat→List Nat){t a b c:List Nat}(ha:Asc t)(hl:t.length≤800)(e:Zaz t=[a,b,c])(h1:Zgi a=true)(h2:Zgi b=true)(h3:okA c=true)(h4:∀m∈mks c,mkB (nmOf m) (txOf m)=true∧txOf m=G (nmOf m)){xs:List Str}{vs:List D}(hf:Zji (mks c) ([],[])=(xs,vs)):
  Gen.Zbi [.lst [.str (S a),.str (S b),.str (S c)]]=some (.oK (inrs xs) vs):=by
 have wa:=Zgj (t:=t) (w:=a) (by rw[e];simp)
 have wb:=Zgj (t:=t) (w:=b) (by rw[e];simp)
 have wc:=Zgj (t:=t) (w:=c) (by rw[e];simp)
 have na:=Zo0 a (fun x hx=>ha x (wa.1 x hx)) (by omega)
 have nb:=Zo0 b (fun x hx=>ha x (wb.1 x hx)) (by omega)
 have ac:Asc c:=fun x hx=>ha x (wc.1 x hx)
 have an:=Zo5 c ac (by omega)
 rw[h1]at na
 rw[h2]at nb
 rw[h3,if_pos rfl]at an
 obtain⟨m1,m2⟩:=Zyl ac (by omega)
 have rm:=Zh9 G m1 m2 h4 hf
 have od:=Zuu c
 generalize mksD (mks c)=MD at*
 generalize Zly c=CT at*
 generalize S a=SA at*
 generalize S b=SB at*
 generalize S c=SC at*
 unfold Gen.Zbi Gen.Zdi
 simp[w3a,w3b,w3c,na,nb,an,od,rm]
end My
namespace My
open DL PySem
noncomputable def addS(p:List Nat):List (List Nat)→List Nat→List Nat×List (List Nat)
 | [],s=>(p++s,[])
 |r::rs,s=>(p,(addS r rs s).1::(addS r rs s).2)
theorem Zjk:∀s:List Nat,60∉s→sp s=(s,[])
 | [],_=>rfl
 |c::s,h=>by
  have n:¬c=60:=fun z=>h (by rw[z];exact List.mem_cons_self)
  rw[sp,if_neg n,Zjk s fun z=>h (List.mem_cons_of_mem _ z)]
theorem Zo8(c:Nat)(p:List Nat)(rs:List (List Nat))(s:List Nat):addS (c::p) rs s=(c::(addS p rs s).1,(addS p rs s).2):=by
 cases rs<;> rfl
theorem Zo9(s:List Nat)(h:60∉s):∀t:List Nat,sp (t++s)=addS (sp t).1 (sp t).2 s
 | []=>by
  show sp s=([]++s,[])
  rw[Zjk s h];rfl
 |c::t=>by
  have ih:=Zo9 s h t
  show sp (c::(t++s))=_
  by_cases e:c=60
  ·rw[sp,if_pos e,ih]
   rw[sp,if_pos e];rfl
  ·rw[sp,if_neg e,ih]
   rw[sp,if_neg e]
   exact(Zo8 c _ _ s).symm
theorem Zpa(r:List Nat)(h:60∉r):∀t:List Nat,sp (t++60::r)=((sp t).1,(sp t).2++[r])
 | []=>by
  show sp (60::r)=([],[r])
  rw[sp,if_pos rfl,Zjk r h]
 |c::t=>by
  have ih:=Zpa r h t
  show sp (c::(t++60::r))=_
  by_cases e:c=60
  ·rw[sp,if_pos e,ih]
   rw[sp,if_pos e];rfl
  ·rw[sp,if_neg e,ih]
   rw[sp,if_neg e]
theorem Zk0(p:List Nat)(rs:List (List Nat))(s:List Nat):(addS p rs s).1=p∨(addS p rs s).1=p++s:=by
 cases rs with
 |nil=>exact .inr rfl
 |cons r rs=>exact .inl rfl
theorem Zia(s:List Nat):∀(rs:List (List Nat)) (p:List Nat),∀r'∈(addS p rs s).2,∃r∈rs,r'=r∨r'=r++s
 | [],_,_,h=>nomatch h
 |q::rs,p,r',h=>by
  have h:r'∈(addS q rs s).1::(addS q rs s).2:=h
  rcases List.mem_cons.mp h with z|z
  ·refine⟨q,List.mem_cons_self,?_⟩
   rw[z];exact Zk0 q rs s
  ·obtain⟨r,hr,e⟩:=Zia s rs q r' z
   exact⟨r,List.mem_cons_of_mem _ hr,e⟩
theorem Zk1{c:Nat}(s:List Nat):∀{l r:List Nat},(cutC c l).2=some r→cutC c (l++s)=((cutC c l).1,some (r++s))
 | [],r,h=>by simp[cutC]at h
 |x::l,r,h=>by
  show cutC c (x::(l++s))=_
  unfold cutC at h⊢
  by_cases e:x=c
  ·rw[if_pos e]at h⊢
   rw[if_pos e]
   cases h;rfl
  ·rw[if_neg e]at h⊢
   rw[if_neg e]
   have:=Zk1 s (l:=l) (r:=r) h
   dsimp only
   rw[this]
theorem Zjl{c:Nat}(r:List Nat):∀{l:List Nat},c∉l→cutC c (l++c::r)=(l,some r)
 | [],_=>by show cutC c (c::r)=_;unfold cutC;rw[if_pos rfl]
 |x::l,h=>by
  have n:¬x=c:=fun z=>h (by rw[z];exact List.mem_cons_self)
  show cutC c (x::(l++c::r))=_
  unfold cutC
  rw[if_neg n,Zjl r fun z=>h (List.mem_cons_of_mem _ z)]
theorem Zsj{l:List Nat}(s:List Nat)(h:gtB l=true):gtB (l++s)=true∧hdS (l++s)=hdS l∧tlS (l++s)=tlS l++s:=by
 unfold gtB at h
 cases ho:(cutC 62 l).2 with
 |none=>rw[ho]at h;cases h
 |some r=>
  have:=Zk1 s ho
  unfold gtB hdS tlS
  rw[this,ho]
  exact⟨rfl,rfl,rfl⟩
theorem Zyn{a b c:List Nat}(ha:32∉a)(hb:32∉b):Zaz (a++32::(b++32::c))=[a,b,c]:=by
 unfold Zaz
 rw[Zjj 32 _ a ha,Zjj 32 _ b hb]
 obtain⟨h0,_,h2⟩:=Zdu 32 c
 cases hs:spl 32 c with
 |nil=>exact absurd hs h0
 |cons p r=>
  rw[hs]at h2
  show[a,b,jl [32] (p::r)]=_
  rw[h2]
theorem bl_S:Str.ofString " "=S [32]:=by decide+kernel
theorem z3:3≤PySem.sizeLine:=Z0 (by decide)
theorem Nm.no{w:List Nat}(h:Nm w)(c:Nat)(hc:c<97∨122<c∨c=105∨c=107∨c=110∨c=111):c∉w:=fun z=>by
 have:=h.is c z;omega
theorem Nm.asc{w:List Nat}(h:Nm w):Asc w:=fun c z=>by have:=h.is c z;omega
theorem Zyo{c:Nat}(h1:97≤c)(h2:c≤122):abc c=true:=by
 unfold abc;rw[Nat.ble_eq_true_of_le h1,Nat.ble_eq_true_of_le h2];rfl
theorem Nm.abc{w:List Nat}(h:Nm w):w.all abc=true:=List.all_eq_true.mpr fun c z=>Zyo (h.is c z).1 (h.is c z).2.1
theorem Nm.name{w:List Nat}(h:Nm w):Zgi w=true:=by
 unfold Zgi;rw[decide_eq_true ⟨h.one,h.most⟩,h.abc];rfl
theorem Nm.not{w:List Nat}(h:Nm w):(w==Zez||w==Ze0)=false:=by
 have h1:w≠Zez:=fun z=>h.no 110 (by omega) (by rw[z];decide)
 have h2:w≠Ze0:=fun z=>h.no 107 (by omega) (by rw[z];decide)
 rw[beq_eq_false_iff_ne.mpr h1,beq_eq_false_iff_ne.mpr h2];rfl
theorem Zyp{nm tx tl:List Nat}(h1:62∉nm)(h2:62∉tx)(h3:61∉nm):gtB (nm++61::(tx++62::tl))=true∧hdS (nm++61::(tx++62::tl))=nm++61::tx∧tlS (nm++61::(tx++62::tl))=tl∧nmOf (nm++61::tx)=nm∧txOf (nm++61::tx)=tx:=by
 have e:nm++61::(tx++62::tl)=(nm++61::tx)++62::tl:=by simp
 have n:62∉nm++61::tx:=fun z=>by
  rcases List.mem_append.mp z with z|z
  ·exact h1 z
  rcases List.mem_cons.mp z with z|z
  ·exact absurd z (by decide)
  ·exact h2 z
 have c:=Zjl (c:=62) tl n
 have d:=Zjl (c:=61) tx h3
 unfold gtB hdS tlS nmOf txOf
 rw[e,c,d]
 exact⟨rfl,rfl,rfl,rfl,rfl⟩
structure Fd(w:List Nat):Prop where
 name:Zgi w=true
 nk:(w==Zez||w==Ze0)=false
 is:∀c∈w,97≤c∧c≤122
 most:w.length≤8
theorem Nm.fd{w:List Nat}(h:Nm w):Fd w:=⟨h.name,h.not,fun c z=>⟨(h.is c z).1,(h.is c z).2.1⟩,h.most⟩
noncomputable abbrev wIN:List Nat:=[105,110]
theorem Z1k:Fd wIN:=⟨by decide,by decide,by decide,by decide⟩
theorem Zsk{c:Nat}(h:pls c=true):c<128∧c≠60∧c≠62∧c≠10:=by
 unfold pls abc at h
 simp only[Bool.or_eq_true,Bool.and_eq_true,Nat.ble_eq,List.contains_iff_mem,List.mem_cons,List.not_mem_nil,or_false]at h
 omega
theorem Zyq{c:Nat}(h:sts c=true):c<128∧c≠60∧c≠62∧c≠10:=by
 unfold sts at h
 rw[Bool.or_eq_true]at h
 rcases h with h|h
 ·exact Zsk h
 ·simp only[List.contains_iff_mem,List.mem_cons,List.not_mem_nil,or_false]at h
  omega
structure Pl(y:List Nat):Prop where
 ok:Zfi y=true
 len:y.length≤80
 is:∀c∈y,c<128∧c≠60∧c≠62∧c≠10
theorem Pl.of{y:List Nat}(h1:1≤y.length)(h2:y.length≤80)(h:∀c∈y,pls c=true):Pl y:=
 ⟨by unfold Zfi;rw[decide_eq_true ⟨h1,h2⟩,List.all_eq_true.mpr h];rfl,h2,fun c hc=>Zsk (h c hc)⟩
structure Row(b:List Nat)(xs:List Str)(vs:List D)(n:Nat):Prop where
 r0:(sp b).1.all sts=true
 rs:∀r∈(sp b).2,gtB r=true∧(tlS r).all sts=true∧mkB (nmOf (hdS r)) (txOf (hdS r))=true∧look xs vs (S (nmOf (hdS r)))=some (.str (S (txOf (hdS r))))
 fold:Zji (mks b) ([],[])=(xs,vs)
 dic:Dic xs vs
 pl:∀v∈vs,∃y,v= .str (S y)∧Pl y
 few:vs.length≤n
 ln:10∉b
 asc:Asc b
 len:b.length≤n*100
theorem Row.nil:Row [] [] [] 0:=⟨rfl,(fun _ h=>nomatch h),rfl,⟨List.nodup_nil,rfl⟩,(fun _ h=>nomatch h),Nat.le_refl _,(fun h=>nomatch h),(fun _ h=>nomatch h),Nat.le_refl _⟩
theorem Zpb(s:List Nat):∀(rs:List (List Nat)) (p:List Nat),(∀r∈rs,gtB r=true)→(addS p rs s).2.map hdS=rs.map hdS∧((addS p rs s).1=p∨(addS p rs s).1=p++s)
 | [],p,_=>⟨rfl,.inr rfl⟩
 |r::rs,p,h=>by
  obtain⟨e,z⟩:=Zpb s rs r fun x hx=>h x (List.mem_cons_of_mem _ hx)
  have g:=h r List.mem_cons_self
  refine⟨?_,.inl rfl⟩
  show hdS (addS r rs s).1::(addS r rs s).2.map hdS=hdS r::rs.map hdS
  rw[e]
  rcases z with z|z
  ·rw[z]
  ·rw[z,(Zsj s g).2.1]
theorem Row.fill{b:List Nat}{xs:List Str}{vs:List D}{n:Nat}(h:Row b xs vs n){s:List Nat}(h60:60∉s)(hs:s.all sts=true)(hl:s.length≤100):Row (b++s) xs vs (n+1):=by
 have e:=Zo9 s h60 b
 have hm:mks (b++s)=mks b:=by
  unfold mks
  rw[e]
  exact(Zpb s (sp b).2 (sp b).1 fun r hr=>(h.rs r hr).1).1
 have ss:∀c∈s,c<128∧c≠60∧c≠62∧c≠10:=fun c hc=>Zyq (List.all_eq_true.mp hs c hc)
 refine⟨?_,fun r hr=>?_,by rw[hm];exact h.fold,h.dic,h.pl,by have:=h.few;omega,fun z=>?_,fun c z=>?_,?_⟩
 ·rw[e]
  rcases Zk0 (sp b).1 (sp b).2 s with z|z
  ·rw[z];exact h.r0
  ·rw[z,List.all_append,h.r0,hs];rfl
 ·rw[e]at hr
  obtain⟨q,hq,z⟩:=Zia s (sp b).2 (sp b).1 r hr
  obtain⟨a1,a2,a3,a4⟩:=h.rs q hq
  rcases z with z|z
  ·rw[z];exact⟨a1,a2,a3,a4⟩
  ·obtain⟨b1,b2,b3⟩:=Zsj s a1
   rw[z,b2,b3]
   exact⟨b1,by rw[List.all_append,a2,hs];rfl,a3,a4⟩
 ·rcases List.mem_append.mp z with z|z
  ·exact h.ln z
  ·exact(ss _ z).2.2.2 rfl
 ·rcases List.mem_append.mp z with z|z
  ·exact h.asc c z
  ·exact(ss c z).1
 ·rw[List.length_append];have:=h.len;omega
theorem Row.mark{b:List Nat}{xs:List Str}{vs:List D}{n:Nat}(h:Row b xs vs n){f y:List Nat}(hf:Fd f)(hy:Pl y)(hc:∀z,look xs vs (S f)=some (.str (S z))→z=y):Row (b++60::(f++61::(y++62::[]))) (putA xs vs (S f) (.str (S y))).1 (putA xs vs (S f) (.str (S y))).2 (n+1):=by
 have f60:∀c∈f,c<128∧c≠60∧c≠62∧c≠61∧c≠10:=fun c z=>by have:=hf.is c z;omega
 obtain⟨a1,a2,a3,a4,a5⟩:=Zyp (nm:=f) (tx:=y) (tl:=[]) (fun z=>(f60 _ z).2.2.1 rfl) (fun z=>(hy.is _ z).2.2.1 rfl) (fun z=>(f60 _ z).2.2.2.1 rfl)
 have all:∀c∈f++61::(y++62::[]),c<128∧c≠60∧c≠10:=fun c z=>by
  rcases List.mem_append.mp z with z|z
  ·have:=f60 c z;omega
  rcases List.mem_cons.mp z with z|z
  ·omega
  rcases List.mem_append.mp z with z|z
  ·have:=hy.is c z;omega
  ·have:=List.mem_singleton.mp z;omega
 have e:=Zpa (f++61::(y++62::[])) (fun z=>(all _ z).2.1 rfl) b
 generalize hr0:f++61::(y++62::[])=r0 at*
 have hm:mks (b++60::r0)=mks b++[f++61::y]:=by
  unfold mks
  rw[e]
  show((sp b).2++[r0]).map hdS=_
  rw[List.map_append,List.map_singleton,a2]
 have mk:mkB f y=true:=by unfold mkB;rw[hf.name,hf.nk,hy.ok];rfl
 have pl:=Zep (S f) (.str (S y)) xs vs h.dic.len
 refine⟨by rw[e];exact h.r0,fun r hr=>?_,?_,h.dic.put _ _,fun v hv=>?_,by have:=h.few;omega,fun z=>?_,fun c z=>?_,?_⟩
 ·rw[e]at hr
  rw[Zf7 _ _ _ _ _ h.dic.len]
  rcases List.mem_append.mp hr with z|z
  ·obtain⟨q1,q2,q3,q4⟩:=h.rs r z
   refine⟨q1,q2,q3,?_⟩
   by_cases hk:S f=S (nmOf (hdS r))
   ·rw[if_pos hk]
    rw[←hk]at q4
    rw[hc _ q4]
   ·rw[if_neg hk];exact q4
  ·rw[List.mem_singleton.mp z,a2,a3,a4,a5]
   exact⟨a1,rfl,mk,if_pos rfl⟩
 ·rw[hm]
  unfold Zji
  rw[List.foldl_append]
  have:=h.fold
  unfold Zji at this
  rw[this]
  show putM (xs,vs) (f++61::y)=_
  unfold putM
  rw[a4,a5]
 ·rcases Zhx (S f) _ xs vs v hv with z|z
  ·exact⟨y,z,hy⟩
  ·exact h.pl v z
 ·rcases List.mem_append.mp z with z|z
  ·exact h.ln z
  rcases List.mem_cons.mp z with z|z
  ·exact absurd z (by decide)
  ·exact(all _ z).2.2 rfl
 ·rcases List.mem_append.mp z with z|z
  ·exact h.asc c z
  rcases List.mem_cons.mp z with z|z
  ·rw[z];decide
  ·exact(all c z).1
 ·have:=h.len
  have:=hf.most
  have:=hy.len
  rw[List.length_append,List.length_cons,←hr0]
  simp only[List.length_append,List.length_cons,List.length_nil]
  omega
noncomputable def Gd(xs:List Str)(vs:List D)(k:List Nat):List Nat:=match look xs vs (S k)with
 |some (.str s)=>s.cps.toList
 |_=>[]
theorem Row.ok{b:List Nat}{xs:List Str}{vs:List D}{n:Nat}(h:Row b xs vs n):okA b=true∧∀m∈mks b,mkB (nmOf m) (txOf m)=true∧txOf m=Gd xs vs (nmOf m):=by
 refine⟨?_,fun m hm=>?_⟩
 ·unfold okA
  rw[Bool.and_eq_true]
  refine⟨List.all_eq_true.mpr fun r hr=>(h.rs r hr).1,List.all_eq_true.mpr fun l hl=>?_⟩
  rcases List.mem_cons.mp hl with z|z
  ·rw[z];exact h.r0
  ·obtain⟨r,hr,rfl⟩:=List.mem_map.mp z
   exact(h.rs r hr).2.1
 ·obtain⟨r,hr,rfl⟩:=List.mem_map.mp hm
  obtain⟨a1,a2,a3,a4⟩:=h.rs r hr
  refine⟨a3,?_⟩
  unfold Gd
  rw[a4]
end My
namespace My
open DL PySem
structure Rw where
 k:List Nat
 kd:List Nat
 b:List Nat
 xs:List Str
 vs:List D
noncomputable def Rw.t(r:Rw):List Nat:=r.k++32::(r.kd++32::r.b)
noncomputable def Rw.e(r:Rw):D:=.tup [.str (S r.kd),.dK (inrs r.xs) r.vs]
structure Rw.Ok(r:Rw):Prop where
 k:Nm r.k
 kd:Nm r.kd
 row:Row r.b r.xs r.vs 5
theorem Rw.Ok.tx{r:Rw}(h:r.Ok):Asc r.t∧r.t.length≤600∧10∉r.t∧r.t≠[]:=by
 have m1:=h.k.most
 have m2:=h.kd.most
 have l:=h.row.len
 unfold Rw.t
 refine⟨fun c z=>?_,?_,fun z=>?_,fun z=>by have:=congrArg List.length z;simp at this⟩
 ·rcases List.mem_append.mp z with z|z
  ·exact h.k.asc c z
  rcases List.mem_cons.mp z with z|z
  ·rw[z];decide
  rcases List.mem_append.mp z with z|z
  ·exact h.kd.asc c z
  rcases List.mem_cons.mp z with z|z
  ·rw[z];decide
  ·exact h.row.asc c z
 ·rw[List.length_append,List.length_cons,List.length_append,List.length_cons];omega
 ·rcases List.mem_append.mp z with z|z
  ·exact h.k.no 10 (by omega) z
  rcases List.mem_cons.mp z with z|z
  ·exact absurd z (by decide)
  rcases List.mem_append.mp z with z|z
  ·exact h.kd.no 10 (by omega) z
  rcases List.mem_cons.mp z with z|z
  ·exact absurd z (by decide)
  ·exact h.row.ln z
theorem Zuv(A B:Option SV){r:Rw}(h:r.Ok)(n:Int)(xs:List Str)(vs:List D)(hk:S r.k∉xs)(hl:vs.length≤500)(x5 x6:Option SV):
  ∃y5 y6,Gen.Zap [A,some (.oK (inrs xs) vs),B,some (.fz (.int n)),some (.fz (.str (S r.t))),x5,x6]=some (.nx [A,some (.oK (inrs (xs++[S r.k])) (vs++[r.e])),B,some (.fz (.int n)),some (.fz (.str (S r.t))),y5,y6]):=by
 obtain⟨ta,tl,_,_⟩:=h.tx
 have e:Zaz r.t=[r.k,r.kd,r.b]:=Zyn (h.k.no 32 (by omega)) (h.kd.no 32 (by omega))
 obtain⟨o1,o2⟩:=h.row.ok
 have rr:=Zym _ ta (by omega) e h.k.name h.kd.name o1 o2 h.row.fold
 have s2:=Zyk r.t
 rw[e]at s2
 have s2:Txt.splitMax (S r.t) (S [32]) 2=[S r.k,S r.kd,S r.b]:=s2
 have h0:¬(S [32]).length=0:=by decide+kernel
 have z:r.t.length≤PySem.sizeLine:=Z0 (by omega)
 have nm:look (inrs xs) vs (Sum.inr (S r.k))=none:=by rw[Zc2];exact Zos hk
 have pi:=Zds (S r.k) (.tup [.str (S r.kd),.dK (inrs r.xs) r.vs]) xs vs
 rw[Zkq hk]at pi
 have zl:vs.length<PySem.sizeLine:=Zb3 (by omega)
 refine⟨some (.fz (.lst [.str (S r.k),.str (S r.kd),.str (S r.b)])),some (.fz (.dK (inrs r.xs) r.vs)),?_⟩
 unfold Rw.e
 generalize S r.k=SK at*
 generalize S r.kd=SB at*
 generalize S r.b=SC at*
 generalize inrs r.xs=YS at*
 generalize r.vs=us at*
 generalize inrs (xs++[SK])=XS' at*
 generalize inrs xs=XS at*
 generalize r.t=T at*
 unfold Gen.Zap
 simp[-putA,-look,Z9,z,z2,z3,bl_S,h0,s2,rr,w3a,w3b,nm,pi,zl]
noncomputable abbrev ksR(rs:List Rw):List Str:=rs.map fun r=>S r.k
noncomputable abbrev esR(rs:List Rw):List D:=rs.map Rw.e
noncomputable abbrev Zbw(rs:List Rw):List D:=rs.map fun r=>D.str (S r.t)
theorem Zpc(A B:Option SV):∀(rs:List Rw) (n:Nat) (xs:List Str) (vs:List D) (x3 x4 x5 x6:Option SV),(∀r∈rs,r.Ok)→(xs++ksR rs).Nodup→xs.length=vs.length→vs.length+rs.length≤400→
  ∃y3 y4 y5 y6,forD (Zdm 2 (Zao (Zq 3) (Zao (Zq 4) (Zd5)))) Gen.Zap (((Zbw rs).zipIdx n).map (fun p=>D.tup [.int (p.2:Nat),p.1])) [A,some (.oK (inrs xs) vs),B,x3,x4,x5,x6]=some (.nx [A,some (.oK (inrs (xs++ksR rs)) (vs++esR rs)),B,y3,y4,y5,y6])
 | [],n,xs,vs,x3,x4,x5,x6,_,_,_,_=>⟨x3,x4,x5,x6,by simp[ksR,esR,Zbw]⟩
 |r::rs,n,xs,vs,x3,x4,x5,x6,hg,nd,hd,hc=>by
  have g:=hg r List.mem_cons_self
  have nd':(xs++S r.k::ksR rs).Nodup:=nd
  have nk:S r.k∉xs:=fun z=>(List.nodup_append.mp nd').2.2 _ z _ List.mem_cons_self rfl
  rw[List.length_cons]at hc
  obtain⟨y5,y6,e⟩:=Zuv A B g (n:Int) xs vs nk (by omega) x5 x6
  have ea:xs++S r.k::ksR rs=xs++[S r.k]++ksR rs:=by simp
  have eb:vs++r.e::esR rs=vs++[r.e]++esR rs:=by simp
  obtain⟨z3,z4,z5,z6,ih⟩:=Zpc A B rs (n+1) (xs++[S r.k]) (vs++[r.e]) (some (.fz (.int (n:Int)))) (some (.fz (.str (S r.t)))) y5 y6 (fun q hq=>hg q (List.mem_cons_of_mem _ hq)) (by rw[←ea];exact nd') (by simp[hd]) (by rw[List.length_append,List.length_singleton];omega)
  refine⟨z3,z4,z5,z6,?_⟩
  have run:(Zdm 2 (Zao (Zq 3) (Zao (Zq 4) (Zd5)))).run (.tup [.int (n:Int),.str (S r.t)]) [A,some (.oK (inrs xs) vs),B,x3,x4,x5,x6]=some [A,some (.oK (inrs xs) vs),B,some (.fz (.int (n:Int))),some (.fz (.str (S r.t))),x5,x6]:=by simp
  show forD _ _ (D.tup [.int (n:Nat),.str (S r.t)]::((Zbw rs).zipIdx (n+1)).map fun p=>D.tup [.int (p.2:Nat),p.1]) _=some (.nx [A,some (.oK (inrs (xs++S r.k::ksR rs)) (vs++r.e::esR rs)),B,z3,z4,z5,z6])
  rw[ea,eb]
  exact(Zb4 run e).trans ih
theorem nl_S:Str.ofString "\n"=S [10]:=by decide+kernel
noncomputable abbrev txR(rs:List Rw):List Nat:=jl [10] (rs.map Rw.t)
theorem Zlz(rs:List (List Nat))(h0:rs≠[])(h:∀r∈rs,10∉r):Txt.split (S (jl [10] rs)) (S [10])=rs.map S:=
 Zlr _ _ (by decide) (by decide+kernel) rs (by rw[Za8];exact Zdd rs h0 h) (by rw[Za8,Za8])
theorem Zk2:Gen.Z2 [.str (Str.ofString "")]=some (.oK [] []):=by kernel_rfl
theorem Zuw{rs:List Rw}(h:∀r∈rs,r.Ok)(nd:(ksR rs).Nodup)(hc:rs.length≤400)(ht:(txR rs).length≤1000000):Gen.Z2 [.str (S (txR rs))]=some (.oK (inrs (ksR rs)) (esR rs)):=by
 cases rs with
 |nil=>exact Zk2
 |cons r0 rs0=>
  have ne:(r0::rs0).map Rw.t≠[]:=by simp
  have no:∀r∈(r0::rs0).map Rw.t,10∉r:=fun r hr=>by
   obtain⟨q,hq,rfl⟩:=List.mem_map.mp hr
   exact(h q hq).tx.2.2.1
  have sp:Txt.split (S (txR (r0::rs0))) (S [10])=((r0::rs0).map Rw.t).map S:=Zlz _ ne no
  have hne:¬S (txR (r0::rs0))=S []:=S_ne fun z=>by
   have:r0.t≠[]:=(h r0 List.mem_cons_self).tx.2.2.2
   unfold txR at z
   rw[List.map_cons]at z
   cases hq:rs0.map Rw.t with
   |nil=>rw[hq]at z;exact this z
   |cons a b=>
    rw[hq]at z
    have z':r0.t++[10]++jl [10] (a::b)=[]:=z
    simp at z'
  have he:Str.ofString ""=S []:=rfl
  have z:(txR (r0::rs0)).length≤PySem.sizeLine:=Z0 (by omega)
  have h0:¬(S [10]).length=0:=by decide+kernel
  have zr:(((r0::rs0).map Rw.t).map S).length≤PySem.sizeLine:=Z0 (by rw[List.length_map,List.length_map];omega)
  have mm:(((r0::rs0).map Rw.t).map S).map D.str=Zbw (r0::rs0):=by rw[List.map_map,List.map_map];rfl
  obtain⟨y3,y4,y5,y6,e⟩:=Zpc (some (.fz (.str (S (txR (r0::rs0)))))) (some (.fz (.lst (Zbw (r0::rs0))))) (r0::rs0) 1 [] [] none none none none h (by simpa using nd) rfl (by simpa using hc)
  have e0:(inrs []:List L2.Key)=[]:=rfl
  rw[e0,List.nil_append,List.nil_append]at e
  rw[←mm]at e
  generalize ((r0::rs0).map Rw.t).map S=W at*
  generalize txR (r0::rs0)=T at*
  generalize inrs (ksR (r0::rs0))=KS at*
  generalize esR (r0::rs0)=ES at*
  have e:forD (Zdm 2 (Zao (Zq 3) (Zao (Zq 4) (Zd5)))) Gen.Zap (Zem (W.map D.str)) _=_:=e
  unfold Gen.Z2 Gen.Zcr
  simp[-forD,-List.map_map,Z9,z,he,hne,nl_S,h0,sp,zr,e]
end My
namespace My
open DL PySem
class Sm (s:Str) (n:outParam Nat):Prop where
 le:s.length≤n
instance:Sm (Str.ofString "<") 20:=⟨by decide+kernel⟩
instance:Sm (Str.ofString ">") 20:=⟨by decide+kernel⟩
instance:Sm (Str.ofString "=") 20:=⟨by decide+kernel⟩
instance:Sm (Str.ofString " ") 20:=⟨by decide+kernel⟩
instance smApp {x y:Str} {m n:Nat} [a:Sm x m] [b:Sm y n]:Sm (x++y) (m+n):=⟨by rw[Zi7];have:=a.le;have:=b.le;omega⟩
theorem Zpd(x y:Str){m n:Nat}[a:Sm x m][b:Sm y n](h:m+n≤16777216):addD (.str x) (.str y)=some (.fz (.str (x++y))):=by
 show(if _ then _ else _)=_
 rw[if_pos (Z0 (by have:=a.le;have:=b.le;omega))]
theorem Zpe(x y:Int):addD (.int x) (.int y)=some (.fz (.int (x+y))):=rfl
theorem Zpf(x y:List D):addD (.lst x) (.lst y)=if x.length+y.length≤PySem.sizeLine then some (.ol (x++y))else none:=rfl
theorem Zux:PLS.cps.toList.length=76:=by decide+kernel
theorem Zre:PLS.length≤PySem.sizeLine:=by decide+kernel
theorem Zuy:∀c∈PLS.cps.toList,pls c=true:=by decide+kernel
theorem Zl0(x:Int)(w:List Nat)(hw:w.length≤100)(x3:Option SV):∃x' c,pls c=true∧Gen.Za2 [some (.fz (.int x)),some (.fz (.str PLS)),some (.fz (.str (S w))),x3]=some (.nx [some (.fz (.int x')),some (.fz (.str PLS)),some (.fz (.str (S (w++[c])))),x3]):=by
 have hm:mulI x 69621=some (.fz (.int (x*69621))):=Zkc (by decide)
 obtain⟨c,hc,e⟩:=Zkp PLS.cps.toList ((x*69621+7) % 2147483629) 76 (by rw[Zux];rfl) (by decide)
 have z:(S w).length+(⟨#[c]⟩:Str).length≤PySem.sizeLine:=Z0 (by rw[Z9 w];show w.length+1≤_;omega)
 have ea:S w++(⟨#[c]⟩:Str)=S (w++[c]):=Zbg w [c]
 have pl:=Zre
 refine⟨(x*69621+7) % 2147483629,c,Zuy c hc,?_⟩
 generalize PLS=P at*
 unfold Gen.Za2
 simp[hm,e,z,ea,pl]
theorem Zfk(x:Int):∀(j s:Nat) (w:List Nat) (x3:Option SV),w.length=s→s+j≤80→(∀c∈w,pls c=true)→∀x:Int,∃x' y y3,y.length=s+j∧(∀c∈y,pls c=true)∧forD (Zq 3) Gen.Za2 (nats s j) [some (.fz (.int x)),some (.fz (.str PLS)),some (.fz (.str (S w))),x3]=some (.nx [some (.fz (.int x')),some (.fz (.str PLS)),some (.fz (.str (S y))),y3])
 |0,s,w,x3,hw,_,hp,x=>⟨x,w,x3,hw,hp,rfl⟩
 |j+1,s,w,x3,hw,hl,hp,x=>by
  obtain⟨x',c,hc,e⟩:=Zl0 x w (by omega) (some (.fz (.int (s:Int))))
  obtain⟨x2,y,y3,l,p,e2⟩:=Zfk x j (s+1) (w++[c]) (some (.fz (.int (s:Int)))) (by simp[hw]) (by omega) (fun d hd=>by
   rcases List.mem_append.mp hd with z|z
   ·exact hp d z
   ·rw[List.mem_singleton.mp z];exact hc) x'
  refine⟨x2,y,y3,by omega,p,?_⟩
  have en:nats s (j+1)=D.int (s:Int)::nats (s+1) j:=by unfold nats;rw[List.range'_succ,List.map_cons]
  rw[en]
  exact(Zb4 (by simp) e).trans e2
theorem Zrf(n:Int):∃y,Pl y∧Gen.Za6 [.int n]=some (.fz (.str (S y))):=by
 obtain⟨d,hd,e⟩:=Zkp [D.int (1+n % 8),.int 1,.int (1+n % 80),.int (1+n % 5),.int 80] (n / 64) 5 rfl (by decide)
 have q:∃j:Nat,d= .int (j:Int)∧1≤j∧j≤80:=by
  have a1:=Int.emod_nonneg n (show(8:Int)≠0 by decide)
  have a2:=Int.emod_lt_of_pos n (show(0:Int)<8 by decide)
  have b1:=Int.emod_nonneg n (show(80:Int)≠0 by decide)
  have b2:=Int.emod_lt_of_pos n (show(0:Int)<80 by decide)
  have c1:=Int.emod_nonneg n (show(5:Int)≠0 by decide)
  have c2:=Int.emod_lt_of_pos n (show(0:Int)<5 by decide)
  simp only[List.mem_cons,List.not_mem_nil,or_false]at hd
  rcases hd with z|z|z|z|z
  ·exact⟨(1+n % 8).toNat,by rw[z];congr 1;omega,by omega,by omega⟩
  ·exact⟨1,z,by omega,by omega⟩
  ·exact⟨(1+n % 80).toNat,by rw[z];congr 1;omega,by omega,by omega⟩
  ·exact⟨(1+n % 5).toNat,by rw[z];congr 1;omega,by omega,by omega⟩
  ·exact⟨80,z,by omega,by omega⟩
 obtain⟨j,rfl,j1,j2⟩:=q
 obtain⟨x',y,y3,l,p,e2⟩:=Zfk n j 0 [] none rfl (by omega) (fun _ h=>nomatch h) n
 refine⟨y,Pl.of (by omega) (by omega) p,?_⟩
 have g1:rngP (j:Int):=Zdo (by omega)
 have et:((j:Int)).toNat=j:=by omega
 have y5:5≤PySem.sizeLine:=Z0 (by decide)
 have he:Str.ofString ""=S []:=rfl
 generalize hj:(j:Int)=ji at*
 unfold Gen.Za6 Gen.Zct
 simp[-forD,y5,e,g1,et,Zc1,he,e2]
noncomputable abbrev FLS:List Str:=["",": ","; ("," = A. B & 9/0?!+*'-,"," "]
noncomputable abbrev FLL:List (List Nat):=[[],[58,32],[59,32,40],[32,61,32,65,46,32,66,32,38,32,57,47,48,63,33,43,42,39,45,44],[32]]
theorem Z1l:FLS=FLL.map S:=by decide+kernel
theorem Zyr:∀s∈FLL,60∉s∧s.all sts=true∧s.length≤20:=by decide
theorem lt_S:Str.ofString "<"=S [60]:=by decide+kernel
theorem gt_S:Str.ofString ">"=S [62]:=by decide+kernel
noncomputable abbrev fdD(fs:List (List Nat)):List D:=fs.map fun w=>D.str (S w)
theorem Zrg(fs:List (List Nat))(hl:fs.length=4)(hf:∀f∈fs,Fd f)(x:Int)(b:List Nat)(xs:List Str)(vs:List D)(n:Nat)(hn:n≤10)(h:Row b xs vs n)(x4 x5:Option SV):
  ∃x' b' xs' vs' y5,Row b' xs' vs' (n+1)∧∀a:Addr,Gen.Zar [some (.fz (.int x)),some (.fz (.lst (fdD fs))),some (.oQ a (inrs xs) vs),some (.fz (.str (S b))),x4,x5]=some (.nx [some (.fz (.int x')),some (.fz (.lst (fdD fs))),some (.oQ a (inrs xs') vs'),some (.fz (.str (S b'))),x4,y5]):=by
 have hm:mulI x 48271=some (.fz (.int (x*48271))):=Zkc (by decide)
 generalize hN:(x*48271+11) % 2147483647=N
 have bl:=h.len
 haveI ib:Sm (S b) 2000:=⟨by rw[Z9];omega⟩
 by_cases hc:N / 8 % 4=0
 ·obtain⟨d,hd,e⟩:=Zkp (FLS.map D.str) (N / 32) 5 (by rw[List.length_map];decide) (by decide)
  rw[Z1l,List.map_map]at hd
  obtain⟨s,hs,rfl⟩:=List.mem_map.mp hd
  obtain⟨s1,s2,s3⟩:=Zyr s hs
  have e:L2.atI (FLS.map D.str) (N / 32 % 5)=some (.str (S s)):=e
  simp only[FLS,List.map_cons,List.map_nil]at e
  refine⟨N,b++s,xs,vs,x5,h.fill s1 s2 (by omega),fun a=>?_⟩
  haveI is:Sm (S s) 20:=⟨by rw[Z9];exact s3⟩
  rw[←Zbg]
  have y5:5≤PySem.sizeLine:=Z0 (by decide)
  generalize S b=SB at*
  generalize S s=SS at*
  generalize fdD fs=W at*
  generalize inrs xs=XS at*
  unfold Gen.Zar
  simp[-addD,Zpd,Zpe,Zpf,hm,hN,hc,e,y5]
 ·obtain⟨d,hd,e⟩:=Zkp (fdD fs) (N / 32) 4 (by rw[List.length_map,hl];rfl) (by decide)
  obtain⟨f,hf1,rfl⟩:=List.mem_map.mp hd
  have ff:=hf f hf1
  obtain⟨y0,py0,ep⟩:=Zrf (N / 128)
  have q:∃y,Pl y∧(look xs vs (S f)).getD (.str (S y0))= .str (S y)∧∀z,look xs vs (S f)=some (.str (S z))→z=y:=by
   cases ho:look xs vs (S f)with
   |none=>exact⟨y0,py0,rfl,fun z hz=>nomatch hz⟩
   |some v=>
    obtain⟨y,rfl,py⟩:=h.pl v (Zkr ho)
    exact⟨y,py,rfl,fun z hz=>by injection hz with hz;injection hz with hz;exact(Zja hz).symm⟩
  obtain⟨y,py,eg,hy⟩:=q
  have R:=h.mark ff py hy
  have li:=Zc2 (S f) xs vs
  have pi:=Zds (S f) (.str (S y)) xs vs
  have lp:=Zf7 (S f) (S f) (.str (S y)) xs vs h.dic.len
  rw[if_pos rfl]at lp
  have li2:=Zc2 (S f) (putA xs vs (S f) (.str (S y))).1 (putA xs vs (S f) (.str (S y))).2
  rw[lp]at li2
  have few:=h.few
  have zl:vs.length<PySem.sizeLine:=Zb3 (by omega)
  refine⟨N,b++60::(f++61::(y++62::[])),_,_,some (.fz (.str (S f))),R,fun a=>?_⟩
  have es:S b++S [60]++S f++S [61]++S y++S [62]=S (b++60::(f++61::(y++62::[]))):=by
   rw[Zbg,Zbg,Zbg,Zbg,Zbg];simp
  haveI i1:Sm (S f) 8:=⟨by rw[Z9];exact ff.most⟩
  haveI i2:Sm (S y) 80:=⟨by rw[Z9];exact py.len⟩
  rw[←es,←lt_S,←gt_S,←eq_S]
  generalize hP:putA xs vs (S f) (.str (S y))=P at*
  obtain⟨P1,P2⟩:=P
  generalize S b=SB at*
  generalize hF:S f=SF at*
  generalize hY:S y=SY at*
  generalize S y0=SY0 at*
  generalize fdD fs=W at*
  generalize inrs xs=XS at*
  generalize inrs P1=XS1 at*
  generalize look xs vs SF=L0 at*
  unfold Gen.Zar
  simp[-addD,-look,-putA,Zpd,Zpe,Zpf,hm,hN,hc,e,ep,li,eg,zl,pi,li2]
end My
namespace My
open DL PySem
theorem Zk3(fs:List (List Nat))(hl:fs.length=4)(hf:∀f∈fs,Fd f):∀(j s:Nat) (x:Int) (b:List Nat) (xs:List Str) (vs:List D) (x4 x5:Option SV),s+j≤5→Row b xs vs s→
  ∃x' b' xs' vs' y4 y5,Row b' xs' vs' (s+j)∧∀a:Addr,forD (Zq 4) Gen.Zar (nats s j) [some (.fz (.int x)),some (.fz (.lst (fdD fs))),some (.oQ a (inrs xs) vs),some (.fz (.str (S b))),x4,x5]=some (.nx [some (.fz (.int x')),some (.fz (.lst (fdD fs))),some (.oQ a (inrs xs') vs'),some (.fz (.str (S b'))),y4,y5])
 |0,s,x,b,xs,vs,x4,x5,_,h=>⟨x,b,xs,vs,x4,x5,h,fun _=>rfl⟩
 |j+1,s,x,b,xs,vs,x4,x5,hs,h=>by
  obtain⟨x1,b1,xs1,vs1,y5,h1,e1⟩:=Zrg fs hl hf x b xs vs s (by omega) h (some (.fz (.int (s:Int)))) x5
  obtain⟨x2,b2,xs2,vs2,z4,z5,h2,e2⟩:=Zk3 fs hl hf j (s+1) x1 b1 xs1 vs1 (some (.fz (.int (s:Int)))) y5 (by omega) h1
  refine⟨x2,b2,xs2,vs2,z4,z5,by rw[show s+(j+1)=s+1+j by omega];exact h2,fun a=>?_⟩
  have en:nats s (j+1)=D.int (s:Int)::nats (s+1) j:=by unfold nats;rw[List.range'_succ,List.map_cons]
  rw[en]
  exact(Zb4 (by simp) (e1 a)).trans (e2 a)
theorem Row.up{b:List Nat}{xs:List Str}{vs:List D}{n m:Nat}(h:Row b xs vs n)(hm:n≤m):Row b xs vs m:=
 ⟨h.r0,h.rs,h.fold,h.dic,h.pl,by have:=h.few;omega,h.ln,h.asc,by have:=h.len;have:n*100≤m*100:=Nat.mul_le_mul_right _ hm;omega⟩
theorem Zys(fs:List (List Nat))(hl:fs.length=4)(hf:∀f∈fs,Fd f)(x:Int):∃b xs vs,Row b xs vs 5∧∀a:Addr,Gen.Zbj a [.int x,.lst (fdD fs)] [] []=some (.str (S b),inrs xs,vs):=by
 have h0:0≤x % 5:=Int.emod_nonneg _ (by decide)
 have h1:x % 5<5:=Int.emod_lt_of_pos _ (by decide)
 obtain⟨j,hj⟩:=Int.eq_ofNat_of_zero_le (show 0≤1+x % 5 by omega)
 obtain⟨x',b,xs,vs,y4,y5,h,e⟩:=Zk3 fs hl hf j 0 x [] [] [] none none (by omega) Row.nil
 refine⟨b,xs,vs,h.up (by omega),fun a=>?_⟩
 have e:=e a
 have g1:rngP (j:Int):=Zdo (by omega)
 have et:((j:Int)).toNat=j:=by omega
 have e0:(inrs []:List L2.Key)=[]:=rfl
 have he:Str.ofString ""=S []:=rfl
 rw[e0]at e
 generalize hji:(j:Int)=ji at*
 generalize fdD fs=W at*
 generalize inrs xs=XS at*
 unfold Gen.Zbj Gen.Zev Gen.Zew
 simp[-forD,hj,g1,et,Zc1,he,e]
theorem Z1m(w:D):L2.atI [w] 0=some w:=rfl
theorem Zrh(A0 A1:Option SV)(fs:List (List Nat))(hl:fs.length=4)(hf:∀f∈fs,Fd f)(ws:List (List Nat))(hN:∀w∈ws,Nm w)(nd:ws.Nodup)(rs:List Rw)(hr:∀r∈rs,r.Ok)(hk:rs.map Rw.k=ws.take rs.length)(c:Int)(hlt:rs.length<ws.length)(hw:ws.length≤12)
  (h1:A1=some (.ol (fdD fs))∨A1=some (.fz (.lst (fdD fs)))) (x7 x8 x9:Option SV):∃r y7 y8 y9,r.Ok∧r.k=ws[rs.length]∧
  Gen.Zex [A0,A1,some (.ol (fdD ws)),some (.ol (Zbw rs)),some (.oK (inrs (ksR rs)) (esR rs)),some (.fz (.int (rs.length:Int))),some (.fz (.int c)),x7,x8,x9,none,none,none]=some (.nx [A0,some (.fz (.lst (fdD fs))),some (.ol (fdD ws)),some (.ol (Zbw (rs++[r]))),some (.oK (inrs (ksR (rs++[r]))) (esR (rs++[r]))),some (.fz (.int (rs.length:Int))),some (.fz (.int c)),y7,y8,y9,none,none,none]):=by
 have m1:=Zdt (c+(rs.length:Int)) 48271 (by decide)
 have m2:=Zdt c 16807 (by decide)
 obtain⟨kws,en,kl,_,kn⟩:=Zgg _ (Zgh c 16807) 1 (by decide)
 obtain⟨kd,rfl⟩:∃kd,kws=[kd]:=by
  match kws,kl with
  | [kd],_=>exact⟨kd,rfl⟩
 have nkd:=kn kd List.mem_cons_self
 obtain⟨b,xs,vs,hrow,eu⟩:=Zys fs hl hf ((c+(rs.length:Int)) % 2147483647*48271 % 2147483647)
 have nk:=hN ws[rs.length] (List.getElem_mem hlt)
 have hok:Rw.Ok ⟨ws[rs.length],kd,b,xs,vs⟩:=⟨nk,nkd,hrow⟩
 have hat:L2.atI (fdD ws) (rs.length:Int)=some (.str (S ws[rs.length])):=Zhu _ _ _ (by simp[hlt])
 have hnew:S ws[rs.length]∉ksR rs:=fun z=>by
  obtain⟨r,hr1,e⟩:=List.mem_map.mp z
  have e:=Zja e
  have:r.k∈ws.take rs.length:=by rw[←hk];exact List.mem_map.mpr ⟨r,hr1,rfl⟩
  rw[e]at this
  obtain⟨i,hi,ei⟩:=List.getElem_of_mem this
  rw[List.getElem_take]at ei
  have hi':i<rs.length:=by simp at hi;omega
  exact List.pairwise_iff_getElem.mp nd i rs.length (by omega) hlt hi' ei
 have pi:=Zds (S ws[rs.length]) (.tup [.str (S kd),.dK (inrs xs) vs]) (ksR rs) (esR rs)
 rw[Zkq hnew]at pi
 dsimp only at pi
 have zl:(esR rs).length<PySem.sizeLine:=Zb3 (by rw[List.length_map];omega)
 have zr:(Zbw rs).length<PySem.sizeLine:=Zb3 (by rw[List.length_map];omega)
 have y2:2≤PySem.sizeLine:=Z0 (by decide)
 haveI i1:Sm (S ws[rs.length]) 8:=⟨by rw[Z9];exact nk.most⟩
 haveI i2:Sm (S kd) 8:=⟨by rw[Z9];exact nkd.most⟩
 haveI i3:Sm (S b) 500:=⟨by rw[Z9];have:=hrow.len;omega⟩
 have es:S ws[rs.length]++S [32]++S kd++S [32]++S b=S (Rw.t ⟨ws[rs.length],kd,b,xs,vs⟩):=by
  unfold Rw.t
  rw[Zbg,Zbg,Zbg,Zbg];simp
 refine⟨⟨ws[rs.length],kd,b,xs,vs⟩,some (.fz (.int ((c+(rs.length:Int)) % 2147483647*48271 % 2147483647))),some (.fz (.dK (inrs xs) vs)),some (.fz (.str (S kd))),hok,rfl,?_⟩
 have f1:Zbw (rs++[⟨ws[rs.length],kd,b,xs,vs⟩])=Zbw rs++[.str (S (Rw.t ⟨ws[rs.length],kd,b,xs,vs⟩))]:=by simp[Zbw]
 have f2:ksR (rs++[⟨ws[rs.length],kd,b,xs,vs⟩])=ksR rs++[S ws[rs.length]]:=by simp[ksR]
 have f3:esR (rs++[⟨ws[rs.length],kd,b,xs,vs⟩])=esR rs++[.tup [.str (S kd),.dK (inrs xs) vs]]:=by simp[esR,Rw.e]
 rw[f1,f2,f3,←es,←bl_S]
 clear f1 f2 f3 es hok hnew hk hr
 have cu:∀(B2 B3 B4 B5 B6:Option SV),Zen 8 2 Gen.Zbj (Zh (Zd 7) (Zh (Zd 1) (Zs))) [A0,A1,B2,B3,B4,B5,B6,some (.fz (.int ((c+(rs.length:Int)) % 2147483647*48271 % 2147483647))),some (.oK [] []),some (.fz (.str (S kd))),none,none,none]=
   some (.tmp (.fz (.str (S b))),[A0,some (.fz (.lst (fdD fs))),B2,B3,B4,B5,B6,some (.fz (.int ((c+(rs.length:Int)) % 2147483647*48271 % 2147483647))),some (.oK (inrs xs) vs),some (.fz (.str (S kd))),none,none,none]):=fun B2 B3 B4 B5 B6=>by
  rcases h1 with rfl|rfl
  ·exact Zhq (δ1:=[A0,some (.fz (.lst (fdD fs))),B2,B3,B4,B5,B6,some (.fz (.int ((c+(rs.length:Int)) % 2147483647*48271 % 2147483647))),some (.oK [] []),some (.fz (.str (S kd))),none,none,none]) rfl rfl rfl eu
  ·exact Zhq (δ1:=[A0,some (.fz (.lst (fdD fs))),B2,B3,B4,B5,B6,some (.fz (.int ((c+(rs.length:Int)) % 2147483647*48271 % 2147483647))),some (.oK [] []),some (.fz (.str (S kd))),none,none,none]) rfl rfl rfl eu
 have en:Gen.Z1 [.int (c % 2147483647*16807 % 2147483647),.int 1]=some (.ol [.str (S kd)]):=en
 generalize (c+(rs.length:Int)) % 2147483647*48271 % 2147483647=N at*
 generalize c % 2147483647*16807 % 2147483647=N2 at*
 generalize S ws[rs.length]=SK at*
 generalize S kd=SKD at*
 generalize S b=SB at*
 generalize fdD ws=WS at*
 generalize fdD fs=FS at*
 generalize Zbw rs=RS at*
 generalize inrs (ksR rs++[SK])=KS1 at*
 generalize inrs (ksR rs)=KS at*
 generalize esR rs=ES at*
 generalize inrs xs=XS at*
 generalize (rs.length:Int)=ki at*
 unfold Gen.Zex
 simp[-addD,-look,-putA,Zpd,Zpe,Zpf,m1,m2,en,Z1m,hat,cu,zl,zr,y2,pi]
end My
namespace My
open DL PySem
theorem Zuz(y:List Nat)(ns:List (List Nat)):Str.join (S y) (ns.map S)=S (jl y ns):=by
 have e:=Zc0 (S y) (ns.map S)
 rw[List.map_map]at e
 have e2:ns.map ((fun p=>p.cps.toList)∘S)=ns:=by
  conv=>rhs;rw[←List.map_id ns]
  refine List.map_congr_left fun a _=>?_
  show(S a).cps.toList=a
  rw[Za8]
 rw[e2,Za8]at e
 rw[S_of (Str.join (S y) (ns.map S)),e]
theorem Zsl{y:List Nat}{B:Nat}:∀ps:List (List Nat),(∀p∈ps,p.length≤B)→(jl y ps).length≤ps.length*(B+y.length)
 | [],_=>Nat.zero_le _
 | [p],h=>by
  have:=h p List.mem_cons_self
  show p.length≤_
  simp;omega
 |p::q::r,h=>by
  have h1:=h p List.mem_cons_self
  have h2:=Zsl (y:=y) (B:=B) (q::r) fun x hx=>h x (List.mem_cons_of_mem _ hx)
  show(p++y++jl y (q::r)).length≤_
  rw[List.length_append,List.length_append]
  have e:(p::q::r).length*(B+y.length)=(q::r).length*(B+y.length)+(B+y.length):=by
   rw[List.length_cons,Nat.succ_mul]
  omega
theorem Zu0(ns:List Int)(j:Nat):∃c:Int,Gen.Zae [.lst (ns.map D.int),.int (j:Int)]=some (.fz (.int c)):=by
 unfold Gen.Zae Gen.Zbv
 by_cases h:j<ns.length
 ·have h1:(j:Int)<(ns.length:Int):=by omega
  have e:L2.atI (ns.map D.int) (j:Int)=some (.int ns[j]):=Zhu _ _ _ (by simp[h])
  exact⟨ns[j],by simp[e,h1,h]⟩
 ·have h1:¬(j:Int)<(ns.length:Int):=by omega
  exact⟨0,by simp[h1,h]⟩
theorem Zk4(A0:Option SV)(fs:List (List Nat))(hl:fs.length=4)(hf:∀f∈fs,Fd f)(ws:List (List Nat))(hN:∀w∈ws,Nm w)(nd:ws.Nodup)(hw:ws.length≤12):∀(cs:List Int) (rs:List Rw) (A1 x5 x6 x7 x8 x9:Option SV),(∀r∈rs,r.Ok)→rs.map Rw.k=ws.take rs.length→rs.length+cs.length≤ws.length→A1=some (.ol (fdD fs))∨A1=some (.fz (.lst (fdD fs)))→
  ∃rs' y1 y5 y6 y7 y8 y9,(∀r∈rs',r.Ok)∧rs'.map Rw.k=ws.take rs'.length∧rs'.length=rs.length+cs.length∧forD (Zdm 2 (Zao (Zq 5) (Zao (Zq 6) (Zd5)))) Gen.Zex (Zoq rs.length (cs.map D.int)) [A0,A1,some (.ol (fdD ws)),some (.ol (Zbw rs)),some (.oK (inrs (ksR rs)) (esR rs)),x5,x6,x7,x8,x9,none,none,none]=some (.nx [A0,y1,some (.ol (fdD ws)),some (.ol (Zbw rs')),some (.oK (inrs (ksR rs')) (esR rs')),y5,y6,y7,y8,y9,none,none,none])
 | [],rs,A1,x5,x6,x7,x8,x9,hr,hk,_,_=>⟨rs,A1,x5,x6,x7,x8,x9,hr,hk,rfl,rfl⟩
 |c::cs,rs,A1,x5,x6,x7,x8,x9,hr,hk,hc,h1=>by
  rw[List.length_cons]at hc
  have hlt:rs.length<ws.length:=by omega
  obtain⟨r,y7,y8,y9,rok,rk,e⟩:=Zrh A0 A1 fs hl hf ws hN nd rs hr hk c hlt hw h1 x7 x8 x9
  have l1:(rs++[r]).length=rs.length+1:=by simp
  obtain⟨rs',z1,z5,z6,z7,z8,z9,a1,a2,a3,e2⟩:=Zk4 A0 fs hl hf ws hN nd hw cs (rs++[r]) (some (.fz (.lst (fdD fs)))) (some (.fz (.int (rs.length:Int)))) (some (.fz (.int c))) y7 y8 y9 (fun q hq=>by
   rcases List.mem_append.mp hq with z|z
   ·exact hr q z
   ·rw[List.mem_singleton.mp z];exact rok) (by
   rw[l1,List.map_append,hk,List.map_singleton,rk,List.take_add_one,List.getElem?_eq_getElem hlt];rfl) (by rw[l1];omega) (.inr rfl)
  refine⟨rs',z1,z5,z6,z7,z8,z9,a1,a2,by rw[a3,l1,List.length_cons];omega,?_⟩
  rw[l1]at e2
  have run:(Zdm 2 (Zao (Zq 5) (Zao (Zq 6) (Zd5)))).run (.tup [.int (rs.length:Int),.int c]) [A0,A1,some (.ol (fdD ws)),some (.ol (Zbw rs)),some (.oK (inrs (ksR rs)) (esR rs)),x5,x6,x7,x8,x9,none,none,none]=some [A0,A1,some (.ol (fdD ws)),some (.ol (Zbw rs)),some (.oK (inrs (ksR rs)) (esR rs)),some (.fz (.int (rs.length:Int))),some (.fz (.int c)),x7,x8,x9,none,none,none]:=by simp
  exact(Zb4 run e).trans e2
theorem Zu1{vs:List D}(h:∀v∈vs,∃y,v= .str (S y)∧Pl y):∃ys:List Str,vs=ys.map D.str∧ys.length=vs.length:=by
 induction vs with
 |nil=>exact⟨[],rfl,rfl⟩
 |cons v r ih=>
  obtain⟨y,rfl,_⟩:=h v List.mem_cons_self
  obtain⟨ys,e,l⟩:=ih fun z hz=>h z (List.mem_cons_of_mem _ hz)
  exact⟨S y::ys,by rw[e];rfl,by rw[List.length_cons,l];rfl⟩
theorem Zyt{rs:List Rw}(h:∀r∈rs,r.Ok):SkD (inrs (ksR rs)) 5 (.dK (inrs (ksR rs)) (esR rs)):=by
 refine⟨_,rfl,by simp[ksR,esR],fun v hv=>?_⟩
 obtain⟨r,hr,rfl⟩:=List.mem_map.mp hv
 obtain⟨ys,e,l⟩:=Zu1 (h r hr).row.pl
 refine⟨S r.kd,inrs r.xs,ys,by unfold Rw.e;rw[e],?_⟩
 have:=(h r hr).row.few
 omega
theorem Zpg{rs:List Rw}(h:∀r∈rs,r.Ok)(nd:(ksR rs).Nodup):eqM 48 (.dK (inrs (ksR rs)) (esR rs)) (.dK (inrs (ksR rs)) (esR rs))=some true:=by
 refine Zse 47 ⟨nd,by simp[ksR,esR]⟩ fun v hv=>?_
 obtain⟨r,hr,rfl⟩:=List.mem_map.mp hv
 have row:=(h r hr).row
 refine Zuo 46 _ fun x hx=>?_
 rcases List.mem_cons.mp hx with z|z
 ·rw[z];exact Zor 45 _
 ·rw[List.mem_singleton.mp z]
  refine Zse 45 row.dic fun u hu=>?_
  obtain⟨y,rfl,_⟩:=row.pl u hu
  exact Zor 44 _
theorem Zph:∀{ks:List L2.Key} {vs:List D} {k:L2.Key},k∈ks→ks.length=vs.length→∃v∈vs,look ks vs k=some v
 | [],_,_,h,_=>nomatch h
 |_::_,[],_,_,h=>by simp at h
 |k0::ks,v0::vs,k,h,hl=>by
  by_cases e:k0=k
  ·exact⟨v0,List.mem_cons_self,by subst e;simp[look]⟩
  ·obtain⟨v,hv,q⟩:=Zph (ks:=ks) (vs:=vs) (k:=k) ((List.mem_cons.mp h).resolve_left fun z=>e z.symm) (by simpa using hl)
   exact⟨v,List.mem_cons_of_mem _ hv,by simp[look,e];simpa using q⟩
end My
namespace My
open DL PySem
section
variable(a0 a1 a2 a3 a4 a5 a6 a7 a8 a9 a10:Option SV)
theorem Z1n{ks:List L2.Key}{m:Nat}{d:D}(h:SkD ks m d){x:Str}(hx:(Sum.inr x:L2.Key)∈ks):∃δ,Gen.Zgb [a0,a1,a2,a3,a4,a5,a6,a7,a8,a9,a10,some (.fz d),some (.fz (.str x))]=some (false,δ):=by
 obtain⟨vs,rfl,hl,hv⟩:=h
 obtain⟨v,hv1,lk⟩:=Zph hx hl
 obtain⟨y,ks2,ys,rfl,_⟩:=hv v hv1
 have t2:L2.atI [D.str y,.dK ks2 (ys.map D.str)] 1=some (.dK ks2 (ys.map D.str)):=rfl
 refine⟨[a0,a1,a2,a3,a4,a5,a6,a7,a8,a9,a10,some (.fz (.dK ks vs)),some (.fz (.str x))],?_⟩
 generalize ys.map D.str=us at*
 unfold Gen.Zgb
 simp[-look,lk,t2]
theorem Z1o{ks:List L2.Key}{vs:List D}(he:eqM 48 (.dK ks vs) (.dK ks vs)=some true):∃δ,Gen.Zga [a0,a1,a2,a3,some (.oK ks vs),a5,a6,a7,a8,a9,a10,some (.fz (.dK ks vs)),none]=some (false,δ):=by
 refine⟨[a0,a1,a2,a3,some (.oK ks vs),a5,a6,a7,a8,a9,a10,some (.fz (.dK ks vs)),none],?_⟩
 unfold Gen.Zga
 simp[-eqM,he]
end
theorem Zu2(a0 a1 a2 a3 a5 a6 a7 a8 a9:Option SV){rs:List Rw}(h:∀r∈rs,r.Ok)(nd:(ksR rs).Nodup)(hc:rs.length≤400){T:Str}(hr:Gen.Z2 [.str T]=some (.oK (inrs (ksR rs)) (esR rs))):
  Zi6 11 12 1 Gen.Z2 (Zh (Zd 10) (Zs)) Gen.Zga (Zd 4) Gen.Zgb [a0,a1,a2,a3,some (.oK (inrs (ksR rs)) (esR rs)),a5,a6,a7,a8,a9,some (.fz (.str T)),none,none]=some (.nx [a0,a1,a2,a3,some (.fz (.dK (inrs (ksR rs)) (esR rs))),a5,a6,a7,a8,a9,some (.fz (.str T)),none,none]):=by
 refine Zq4 (δ1:=[a0,a1,a2,a3,some (.oK (inrs (ksR rs)) (esR rs)),a5,a6,a7,a8,a9,some (.fz (.str T)),none,none]) (δ3:=[a0,a1,a2,a3,some (.fz (.dK (inrs (ksR rs)) (esR rs))),a5,a6,a7,a8,a9,some (.fz (.str T)),none,none]) (is:=(inrs (ksR rs)).map keyD) (ds:=[.str T]) rfl hr rfl ⟨rfl,fun d hd=>by rw[List.mem_singleton.mp hd];rfl,by decide,by show 11<13;decide,by show 12<13;decide,inrs (ksR rs),5,inrs (ksR rs),Zyt h,Z1o a0 a1 a2 a3 a5 a6 a7 a8 a9 (some (.fz (.str T))) (Zpg h nd),rfl,fun _ h=>h,?_,fun k hk m d hd=>?_⟩
 ·refine Zb3 ?_
  rw[List.length_map,List.length_map];omega
 ·obtain⟨x,_,rfl⟩:=List.mem_map.mp hk
  exact Z1n a0 a1 a2 a3 (some (.fz (.dK (inrs (ksR rs)) (esR rs)))) a5 a6 a7 a8 a9 (some (.fz (.str T))) hd hk
theorem in_S:Str.ofString "in"=S wIN:=by decide+kernel
theorem law_true(ns:List Int)(hns:ns.length≤63):Gen.Zgc [.lst (ns.map D.int)]=some (.fz (.bl true)):=by
 obtain⟨c0,e0⟩:=Zu0 ns 0
 have i0:((0:Nat):Int)=0:=rfl
 rw[i0]at e0
 obtain⟨ms,em,hm⟩:∃ms:List Int,cutD (ns.map D.int) (some 1) (some 13)=ms.map D.int∧ms.length≤12:=by
  obtain⟨ms,e,l⟩:=Zul ns (some 1) (some 13)
  refine⟨ms,e,?_⟩
  have:(cutD (ns.map D.int) (some 1) (some 13)).length≤12:=by
   unfold cutD HT.sIx
   simp
   omega
  rw[e,List.length_map]at this
  exact this
 have x1:=Zdt c0 16807 (by decide)
 have x2:=Zdt c0 39373 (by decide)
 obtain⟨fs,ef,fl,_,fn⟩:=Zgg (c0 % 2147483647*16807 % 2147483647) (Zgh c0 16807) 3 (by decide)
 obtain⟨ws,ek,kl,nd,kn⟩:=Zgg (c0 % 2147483647*39373 % 2147483647) (Zgh c0 39373) 12 (by decide)
 have i3:((3:Nat):Int)=3:=rfl
 have i12:((12:Nat):Int)=12:=rfl
 rw[i3]at ef
 rw[i12]at ek
 have ef:Gen.Z1 [.int (c0 % 2147483647*16807 % 2147483647),.int 3]=some (.ol (fdD fs)):=ef
 have ek:Gen.Z1 [.int (c0 % 2147483647*39373 % 2147483647),.int 12]=some (.ol (fdD ws)):=ek
 have hf:∀f∈fs++[wIN],Fd f:=fun f z=>by
  rcases List.mem_append.mp z with z|z
  ·exact(fn f z).fd
  ·rw[List.mem_singleton.mp z];exact Z1k
 generalize hA:(some (.fz (.lst (ns.map D.int))):Option SV)=A
 obtain⟨rs,y1,y5,y6,y7,y8,y9,ok,rk,rl,l1⟩:=Zk4 A (fs++[wIN]) (by simp[fl]) hf ws kn nd (by omega) ms [] (some (.ol (fdD (fs++[wIN])))) none none none none none (fun r z=>nomatch z) rfl (by simp;omega) (.inl rfl)
 have rl:rs.length≤12:=by rw[rl];simp;omega
 have knd:(ksR rs).Nodup:=by
  have e:ksR rs=(rs.map Rw.k).map S:=by simp[ksR]
  rw[e,rk]
  exact List.Pairwise.map _ (fun a b hab z=>hab (Zja z)) ((List.take_sublist _ _).nodup nd)
 have tl:∀p∈rs.map Rw.t,p.length≤600:=fun p hp=>by
  obtain⟨r,hr,rfl⟩:=List.mem_map.mp hp
  exact(ok r hr).tx.2.1
 have jl1:=Zsl (y:=[10]) (rs.map Rw.t) tl
 have jm:(rs.map Rw.t).length*(600+[10].length)≤12*601:=Nat.mul_le_mul (by rw[List.length_map];exact rl) (Nat.le_refl _)
 have rd:=Zuw ok knd (by omega) (by show(jl [10] (rs.map Rw.t)).length≤_;omega)
 have j1:JoinOk (S [10]) ((rs.map Rw.t).map S)=true:=Zsc (B:=600) (fun x hx=>by
  obtain⟨r,hr,rfl⟩:=List.mem_map.mp hx
  rw[Z9];exact tl r hr) (by
  have l1:(S [10]).length=1:=Z9 _
  rw[l1,List.length_map,List.length_map];omega)
 have j2:Txt.join (S [10]) ((rs.map Rw.t).map S)=S (txR rs):=(Z1h _ _).trans (Zuz _ _)
 have j3:strs? (Zbw rs)=some ((rs.map Rw.t).map S):=by
  have:=Zf5 ((rs.map Rw.t).map S)
  rw[List.map_map,List.map_map]at this
  exact this
 have wf:=fun z5 z6 z7 z8 z9=>Zu2 A y1 (some (.ol (fdD ws))) (some (.ol (Zbw rs))) z5 z6 z7 z8 z9 ok knd (by omega) rd
 have se:=Zpg ok knd
 have enF:=Zun (ms.map D.int)
 have l1:forD (Zdm 2 (Zao (Zq 5) (Zao (Zq 6) (Zd5)))) Gen.Zex (Zoq 0 (ms.map D.int)) [A,some (.ol (fdD (fs++[wIN]))),some (.ol (fdD ws)),some (.ol []),some (.oK [] []),none,none,none,none,none,none,none,none]=_:=l1
 rw[←enF]at l1
 have fe:fdD (fs++[wIN])=fdD fs++[.str (Str.ofString "in")]:=by rw[in_S];simp[fdD]
 rw[fe]at l1
 subst hA
 have zc:(fdD fs).length+1≤PySem.sizeLine:=Z0 (by rw[List.length_map,fl];decide)
 have z1:1≤PySem.sizeLine:=Z0 (by decide)
 have rn:=Zk2
 have e48:eqM 48 (D.dK [] []) (D.dK [] [])=some true:=by kernel_rfl
 have jn:=nl_S
 generalize (rs.map Rw.t).map S=RM at*
 generalize S (txR rs)=TX at*
 generalize inrs (ksR rs)=KS at*
 generalize esR rs=ES at*
 generalize Zbw rs=RS at*
 generalize fdD ws=WS at*
 generalize fdD fs=FS at*
 generalize c0 % 2147483647*16807 % 2147483647=C1 at*
 generalize c0 % 2147483647*39373 % 2147483647=C2 at*
 generalize ms.map D.int=MS at*
 generalize ns.map D.int=NS at*
 unfold Gen.Zgc Gen.Zup
 simp[-forD,-eqM,e0,em,x1,x2,ef,ek,zc,z1,l1,jn,j1,j2,j3,wf,rd,rn,se,e48]
end My
def PySem.W.Fast.tw12762317196984297790:=()
def PySem.W.Fast.tw8073691052551199130:=()
def PySem.W.Fast.tw11356634943374117573:=()
def PySem.W.Fast.tw2905301219180747114:=()
def PySem.W.Fast.tw13504557876197218636:=()
def PySem.W.Fast.tw1079548699427170879:=()
def PySem.W.Fast.tw12407362330996604120:=()
def PySem.W.Fast.tw473316135258697025:=()
def PySem.W.Fast.tw2586187849050178123:=()
def PySem.W.Fast.tw18444568067244690376:=()
def PySem.W.Fast.tw8244912832861768417:=()
def PySem.W.Fast.tw17939992507387853443:=()
open PySem PySem.W PyProof.Rows
set_option maxRecDepth 100000 in
set_option maxHeartbeats 0 in
theorem PySem.Challenge.cw_citeward_k51_lists_read_holds : PySem.Challenge.rw_citeward_k51_lists_read.Holds := by
  w_on; o_law; k_head; (case hw => w_witness2)
  k_fill
  refine Gen.walk (l := PySem.Challenge.rw_citeward_k51_lists_read) rfl rfl (fun w h Y => PySem.W.kIn_of Y) ?F My.law_true
  case F =>
    intro w mg fa h KX G hmg
    refine' Gen.Zx6 KX G hmg ?ax0 ?Fx0 ?kx0 ?ax1 ?Fx1 ?kx1 ?ax2 ?Fx2 ?kx2 ?ax3 ?Fx3 ?kx3 ?ax4 ?Fx4 ?kx4 ?ax5 ?Fx5 ?kx5 ?ax6 ?Fx6 ?kx6 ?ax7 ?Fx7 ?kx7 ?ax8 ?Fx8 ?kx8 ?ax9 ?Fx9 ?kx9 ?ax10 ?Fx10 ?kx10 ?ax11 ?Fx11 ?kx11 ?ax12 ?Fx12 ?kx12 ?ax13 ?Fx13 ?kx13 ?ax14 ?lx14 ?cx14 ?kx14 ?zall ?zdict ?zenumerate ?zint ?zisinstance ?zlen ?zrange ?zstr ?ztuple ?zx0 ?zx1 ?zx2 ?zx3 ?zx4
    (case ax0 => k_is)
    (case Fx0 => exact ⟨_, L2.Za5 (by k_is) (by k_is) (by k_is)⟩)
    (case kx0 => k_is)
    (case ax1 => k_is)
    (case Fx1 => exact ⟨_, L2.Za5 (by k_is) (by k_is) (by k_is)⟩)
    (case kx1 => k_is)
    (case ax2 => k_is)
    (case Fx2 => exact ⟨_, L2.Za5 (by k_is) (by k_is) (by k_is)⟩)
    (case kx2 => k_is)
    (case ax3 => k_is)
    (case Fx3 => exact ⟨_, L2.Za5 (by k_is) (by k_is) (by k_is)⟩)
    (case kx3 => k_is)
    (case ax4 => k_is)
    (case Fx4 => exact ⟨_, L2.Za5 (by k_is) (by k_is) (by k_is)⟩)
    (case kx4 => k_is)
    (case ax5 => k_is)
    (case Fx5 => exact ⟨_, L2.Za5 (by k_is) (by k_is) (by k_is)⟩)
    (case kx5 => k_is)
    (case ax6 => k_is)
    (case Fx6 => exact ⟨_, L2.Za5 (by k_is) (by k_is) (by k_is)⟩)
    (case kx6 => k_is)
    (case ax7 => k_is)
    (case Fx7 => exact ⟨_, L2.Za5 (by k_is) (by k_is) (by k_is)⟩)
    (case kx7 => k_is)
    (case ax8 => k_is)
    (case Fx8 => exact ⟨_, L2.Za5 (by k_is) (by k_is) (by k_is)⟩)
    (case kx8 => k_is)
    (case ax9 => k_is)
    (case Fx9 => exact ⟨_, L2.Za5 (by k_is) (by k_is) (by k_is)⟩)
    (case kx9 => k_is)
    (case ax10 => k_is)
    (case Fx10 => exact ⟨_, L2.Za5 (by k_is) (by k_is) (by k_is)⟩)
    (case kx10 => k_is)
    (case ax11 => k_is)
    (case Fx11 => exact ⟨_, L2.Za5 (by k_is) (by k_is) (by k_is)⟩)
    (case kx11 => k_is)
    (case ax12 => k_is)
    (case Fx12 => exact ⟨_, L2.Za5 (by k_is) (by k_is) (by k_is)⟩)
    (case kx12 => k_is)
    (case ax13 => k_is)
    (case Fx13 => exact ⟨_, L2.Za5 (by k_is) (by k_is) (by k_is)⟩)
    (case kx13 => k_is)
    (case ax14 => k_is)
    (case lx14 => k_is)
    (case cx14 => k_is)
    (case kx14 => k_is)
    (case zall => k_is)
    (case zdict => k_is)
    (case zenumerate => k_is)
    (case zint => k_is)
    (case zisinstance => k_is)
    (case zlen => k_is)
    (case zrange => k_is)
    (case zstr => k_is)
    (case ztuple => k_is)
    (case zx0 => k_is)
    (case zx1 => k_is)
    (case zx2 => k_is)
    (case zx3 => k_is)
    (case zx4 => k_is)
