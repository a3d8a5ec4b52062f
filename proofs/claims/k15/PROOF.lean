import PyProof.Rows.All
import Wide.All
import OpenK.AllK
import Wide.FinOn
import Lean
import PyProof.EqAt
import PyProof.EqKinds
import PyProof.TupleCall
import PyProof.NeKinds
import PyProof.EnumMake
import PyProof.ConsumeWalk
import PyProof.StrWalks
import PyProof.WalksMore
import PyProof.StrLawsNeg
import PySem.Challenge.RW_citeward_k15_no_template
set_option Elab.async false
set_option linter.all false
set_option genSizeOf false
set_option genSizeOfSpec false
set_option maxRecDepth 100000
set_option maxHeartbeats 4000000
namespace L2
open PySem PySem.Spec PyProof.Rows
noncomputable abbrev Key:=Sum Int Str
noncomputable def Zoq:Key→Value→Bool
 | .inl k,v=>Value.isInt k v
 | .inr x,v=>Value.isStrOf x v
noncomputable def keyH(w:World):Key→Int
 | .inl k=>hashInt k
 | .inr x=>hashStr w x
theorem Zal:∀{k:Key} {v:Value},Zoq k v=true→(∃i t,k=Sum.inl i∧v=Value.int i t)∨(∃x t,k=Sum.inr x∧v=Value.str x t)
 | .inl i,v,h=>by
  obtain⟨t,e⟩:=Value.isInt_shape (k:=i) (v:=v) h
  exact .inl ⟨i,t,rfl,e⟩
 | .inr x,v,h=>by
  obtain⟨t,e⟩:=Value.isStrOf_shape (x:=x) (v:=v) h
  exact .inr ⟨x,t,rfl,e⟩
theorem Zuh(a b:Int):decide ((Sum.inl a:Key)=Sum.inl b)=(a==b):=by
 by_cases e:a=b
 ·subst e;simp
 ·have h:¬(Sum.inl a:Key)=Sum.inl b:=fun q=>e (Sum.inl.inj q)
  rw[decide_eq_false h]
  exact(beq_eq_false_iff_ne.mpr e).symm
theorem Zui(a b:Str):decide ((Sum.inr a:Key)=Sum.inr b)=decide (a=b):=by
 by_cases e:a=b
 ·subst e;simp
 ·have h:¬(Sum.inr a:Key)=Sum.inr b:=fun q=>e (Sum.inr.inj q)
  rw[decide_eq_false h,decide_eq_false e]
theorem Zuj(a:Int)(b:Str):decide ((Sum.inl a:Key)=Sum.inr b)=false:=decide_eq_false (fun q=>nomatch q)
theorem Zuk(a:Str)(b:Int):decide ((Sum.inr a:Key)=Sum.inl b)=false:=decide_eq_false (fun q=>nomatch q)
noncomputable def Ziq(prog:Program)(w:World):PySem.KeyKind prog w Key where
 is:=Zoq
 hash:=keyH w
 inj:=fun v a b ha hb=>by
  rcases Zal ha with⟨i,t,rfl,rfl⟩|⟨x,t,rfl,rfl⟩
  ·rcases Zal hb with⟨j,u,rfl,e⟩|⟨y,u,rfl,e⟩
   ·injection e with e1 _;rw[e1]
   ·exact nomatch e
  ·rcases Zal hb with⟨j,u,rfl,e⟩|⟨y,u,rfl,e⟩
   ·exact nomatch e
   ·injection e with e1 _;rw[e1]
 byValue:=fun k v h=>by
  rcases Zal h with⟨i,t,rfl,rfl⟩|⟨x,t,rfl,rfl⟩<;> rfl
 pyHash:=fun hv h=>by
  rcases Zal hv with⟨i,t,rfl,rfl⟩|⟨x,t,rfl,rfl⟩
  ·exact wpAny_pyHash_int h
  ·exact wpAny_pyHash_str h
 eqBool:=fun hu hv h=>by
  rcases Zal hu with⟨i,t,rfl,rfl⟩|⟨x,t,rfl,rfl⟩
  ·rcases Zal hv with⟨j,u,rfl,rfl⟩|⟨y,u,rfl,rfl⟩
   ·rw[Zuh]at h;exact wpAny_eqBool_int h
   ·rw[Zuj]at h;exact SeqAt.EqAt.int_str i t y u _ _ _ _ h
  ·rcases Zal hv with⟨j,u,rfl,rfl⟩|⟨y,u,rfl,rfl⟩
   ·rw[Zuk]at h;exact SeqAt.EqAt.str_int x t j u _ _ _ _ h
   ·rw[Zui]at h;exact wpAny_eqBool_str h
 «strs»:=fun k x t v h=>by
  rcases Zal h with⟨i,u,rfl,e⟩|⟨y,u,rfl,e⟩
  ·exact nomatch e
  ·injection e with e1 _
   subst e1
   cases v<;> rfl
theorem Zuc(prog:Program)(w:World)(k:Key)(v:Value):(Ziq prog w).is k v=Zoq k v:=rfl
end L2
namespace L2
open PySem PySem.Spec PyProof.Rows
inductive V where
 |non|bl (b:Bool)|int (i:Int)|str (x:Str)|byt (b:Array UInt8)|flt (b:UInt64)|ref (a:Addr)|ty (n:String)
 deriving DecidableEq
noncomputable def RelV:V→Value→Prop
 | .non,u=>u=Value.none
 | .bl b,u=>u=Value.bool b
 | .int i,u=>∃t,u=Value.int i t
 | .str x,u=>∃t,u=Value.str x t
 | .byt b,u=>∃t,u=Value.bytes b t
 | .flt b,u=>∃t,u=Value.float b t
 | .ref a,u=>u=Value.ref a
 | .ty n,u=>u=Value.type n
noncomputable abbrev Vals:List V→List Value→Prop:=Paired RelV
theorem Vals.length{xs:List V}{us:List Value}(r:Vals xs us):xs.length=us.length:=Paired.length r
theorem Vals.get:∀{xs:List V} {us:List Value} {i:Nat} {x:V},Vals xs us→xs[i]? =some x→∃u,us[i]? =some u∧RelV x u
 |_,_,_,_,.nil,e=>by simp at e
 |_,_,0,_,.cons r _,e=>by simp at e;subst e;exact⟨_,rfl,r⟩
 |_,_,i+1,x,.cons _ t,e=>by
  obtain⟨u,h1,h2⟩:=Vals.get (i:=i) (x:=x) t (by simpa using e)
  exact⟨u,by simpa using h1,h2⟩
theorem Vals.append:∀{xs ys:List V} {us ws:List Value},Vals xs us→Vals ys ws→Vals (xs++ys) (us++ws)
 |_,_,_,_,.nil,s=>s
 |_,_,_,_,.cons r t,s=>.cons r (Vals.append t s)
theorem Vals.take:∀{xs:List V} {us:List Value} (n:Nat),Vals xs us→Vals (xs.take n) (us.take n)
 |_,_,0,_=>.nil
 |_,_,_+1,.nil=>.nil
 |_,_,n+1,.cons r t=>.cons r (Vals.take n t)
theorem Vals.drop:∀{xs:List V} {us:List Value} (n:Nat),Vals xs us→Vals (xs.drop n) (us.drop n)
 |_,_,0,r=>r
 |_,_,_+1,.nil=>.nil
 |_,_,n+1,.cons _ t=>Vals.drop n t
noncomputable def RelO:Option V→Option Value→Prop
 |some v,some u=>RelV v u
 |none,none=>True
 |_,_=>False
noncomputable def KV{κ:Type}:List (κ×V)→List (κ×Value)→Prop:=Paired fun(p:κ×V) (q:κ×Value)=>p.1=q.1∧RelV p.2 q.2
noncomputable def kV:Key→V
 | .inl i=>.int i
 | .inr x=>.str x
inductive HO where
 |lst (xs:List V)
 |tup (xs:List V)
 |dK (kvs:List (Key×V)) (ep:Nat)|dT (kvs:List (List Key×V)) (ep:Nat) (bs:List Addr)
 |set (S:Int→Bool) (n:Nat)
 |ins (C dx:Addr) (fs:List (Str×V))
 |own (x:Addr)
 |xd (fs:List (Str×V))
 |met (f x:Addr)
 |rng (lo hi:Int)
 |frz (o:Obj) (u:HO)
 |tbl (ps:Array Value)
 |ext (φ:Heap→Prop)
noncomputable abbrev Hp:=Addr→Option HO
noncomputable def upd(H:Hp)(a:Addr)(o:HO):Hp:=fun b=>if b=a then some o else H b
theorem Zab{H:Hp}{a:Addr}{o:HO}:upd H a o a=some o:=by unfold upd;rw[if_pos rfl]
theorem Zy{H:Hp}{a b:Addr}{o:HO}(h:b≠a):upd H a o b=H b:=by unfold upd;rw[if_neg h]
theorem Zca{H:Hp}{a b:Addr}{o:HO}(h:H a=some o)(h':H b=none):a≠b:=by
 intro e;subst e;rw[h]at h';cases h'
section
variable(P:Program)(w:World)
noncomputable def Zcw(H:Hp)(h:Heap)(a:Addr):HO→Prop
 | .lst xs=>xs.length≤sizeLine∧∃(its:List Value) (n:Nat),Vals xs its∧h.get? a=some {cls:=.type "list",data:=.seq its.toArray n}
 | .tup xs=>xs.length≤sizeLine∧∃its:List Value,Vals xs its∧IsTup h a its.toArray
 | .dK kvs ep=>kvs.length≤sizeLine∧(a==sysModules)=false∧∃vs,KV kvs vs∧h.DictAt (Ziq P w) a vs ep
 | .dT kvs ep bs=>kvs.length≤sizeLine∧(a==sysModules)=false∧∃xs:List (List Key×Addr×Value),
   Paired (fun(p:List Key×V) (q:List Key×Addr×Value)=>p.1=q.1∧H q.2.1=some (.tup (p.1.map kV))∧RelV p.2 q.2.2) kvs xs∧
   ∃o es,h.get? a=some o∧o.ExactDict∧o.data= .dict es ep∧es.toList=xs.map (entryOfKey (tupleKind (Ziq P w)))∧(xs.map (·.1)).Nodup∧(xs.map fun x=>x.2.1)=bs
 | .set S n=>h.SetOf (intKind P w) a S n
 | .ins C dx fs=>H dx=some (.own a)∧fs.length≤1000∧dx≠a∧h.get? a=some (PySem.W.instObj C dx)∧
   ∃mA,h.Ns1 dx mA∧(∀f,RelO (fs.lookup f) (mA f))∧PySem.Within mA (fs.map (·.1))
 | .own _=>∃o,h.get? a=some o
 | .xd fs=>∃mA,h.Ns1 a mA∧∀f,RelO (fs.lookup f) (mA f)
 | .rng lo hi=>∃t u v,h.get? a=some {cls:=.type "range",data:=.fields #[.int lo t,.int hi u,.int 1 v]}
 | .frz o u=>h.get? a=some o∧Zcw H h a u
 | .tbl ps=>h.get? a=some {cls:=.none,data:=.fields ps}
 | .met f x=>h.get? a=some (PySem.W.methodObj (.ref f) (.ref x))
 | .ext φ=>φ h∧(∃o,h.get? a=some o)∧∀h1 h2:Heap,φ h1→(∀o,h1.get? a=some o→h2.get? a=some o)→φ h2
noncomputable def HOk(H:Hp)(h:Heap):Prop:=∀a o,H a=some o→Zcw P w H h a o
end
section
variable{P:Program}{w:World}{H H':Hp}{h h':Heap}{a:Addr}{o:HO}
theorem Zcw.lt(x:Zcw P w H h a o):a<h.objs.size:=by
 cases o with
 |lst xs=>obtain⟨_,_,_,_,e⟩:=x;exact Heap.lt_size e
 |tup xs=>obtain⟨_,_,_,p⟩:=x;exact p.lt
 |dK kvs ep=>obtain⟨_,_,_,_,o,_,e,_⟩:=x;exact Heap.lt_size e
 |dT kvs ep bs=>obtain⟨_,_,_,_,o,_,e,_⟩:=x;exact Heap.lt_size e
 |set S n=>obtain⟨o,_,_,_,e,_⟩:=x;exact Heap.lt_size e
 |ins C dx fs=>obtain⟨_,_,_,e,_⟩:=x;exact Heap.lt_size e
 |own y=>obtain⟨_,e⟩:=x;exact Heap.lt_size e
 |xd fs=>obtain⟨_,⟨_,_,_,e,_⟩,_⟩:=x;exact Heap.lt_size e
 |rng lo hi=>obtain⟨_,_,_,e⟩:=x;exact Heap.lt_size e
 |frz ob u=>obtain⟨e,_⟩:=x;exact Heap.lt_size e
 |tbl ps=>exact Heap.lt_size (show h.get? a=some _ from x)
 |met f y=>exact Heap.lt_size (show h.get? a=some _ from x)
 |ext φ=>obtain⟨_,⟨_,e⟩,_⟩:=x;exact Heap.lt_size e
theorem Paired.mapP{α β:Type}{F G:α→β→Prop}{l₁:List α}{l₂:List β}(h:Paired F l₁ l₂)(f:∀a b,F a b→G a b):Paired G l₁ l₂:=by
 induction h with
 |nil=>exact .nil
 |cons r _ ih=>exact .cons (f _ _ r) ih
theorem Zcw.stay(x:Zcw P w H h a o)(k:∀b u,(b=a∨H b=some (.own a))→h.get? b=some u→h'.get? b=some u)
  (ho:∀b,H b=some (.own a)→H' b=some (.own a)) (ht:∀b xs,H b=some (.tup xs)→H' b=some (.tup xs)):Zcw P w H' h' a o:=by
 induction o with
 |lst xs=>obtain⟨z,its,n,r,e⟩:=x;exact⟨z,its,n,r,k _ _ (.inl rfl) e⟩
 |tup xs=>obtain⟨z,its,r,ob,e,c⟩:=x;exact⟨z,its,r,ob,k _ _ (.inl rfl) e,c⟩
 |dK kvs ep=>obtain⟨z,y,vs,r,ob,es,e,c⟩:=x;exact⟨z,y,vs,r,ob,es,k _ _ (.inl rfl) e,c⟩
 |dT kvs ep bs=>
  obtain⟨z,y,xs,r,ob,es,e,c⟩:=x
  exact⟨z,y,xs,Paired.mapP r fun p q z=>⟨z.1,ht _ _ z.2.1,z.2.2⟩,ob,es,k _ _ (.inl rfl) e,c⟩
 |set S n=>obtain⟨ob,es,ep,t,e,c⟩:=x;exact⟨ob,es,ep,t,k _ _ (.inl rfl) e,c⟩
 |ins C dx fs=>
  obtain⟨d,z,ne,e,mA,⟨od,es,ep,e2,c⟩,r⟩:=x
  exact⟨ho _ d,z,ne,k _ _ (.inl rfl) e,mA,⟨od,es,ep,k _ _ (.inr d) e2,c⟩,r⟩
 |own y=>obtain⟨ob,e⟩:=x;exact⟨ob,k _ _ (.inl rfl) e⟩
 |xd fs=>obtain⟨mA,⟨od,es,ep,e,c⟩,r⟩:=x;exact⟨mA,⟨od,es,ep,k _ _ (.inl rfl) e,c⟩,r⟩
 |rng lo hi=>obtain⟨t,u,v,e⟩:=x;exact⟨t,u,v,k _ _ (.inl rfl) e⟩
 |frz ob u ih=>obtain⟨e,q⟩:=x;exact⟨k _ _ (.inl rfl) e,ih q⟩
 |tbl ps=>
  have e:h.get? a=some {cls:=.none,data:=.fields ps}:=x
  show h'.get? a=some {cls:=.none,data:=.fields ps}
  exact k a _ (.inl rfl) e
 |met f y=>
  have e:h.get? a=some (PySem.W.methodObj (.ref f) (.ref y)):=x
  show h'.get? a=some (PySem.W.methodObj (.ref f) (.ref y))
  exact k a _ (.inl rfl) e
 |ext φ=>obtain⟨p,⟨o,e⟩,st⟩:=x;exact⟨st _ _ p fun o q=>k _ _ (.inl rfl) q,⟨o,k _ _ (.inl rfl) e⟩,st⟩
theorem HOk.lt(x:HOk P w H h)(e:H a=some o):a<h.objs.size:=(x a o e).lt
theorem HOk.fresh(x:HOk P w H h)(e:h.objs.size≤a):H a=none:=by
 cases q:H a with
 |none=>rfl
 |some u=>exact absurd (Nat.lt_of_lt_of_le (x.lt q) e) (Nat.lt_irrefl _)
theorem HOk.kept(x:HOk P w H h)(k:∀b u,h.get? b=some u→h'.get? b=some u):HOk P w H h':=fun a o e=>
 (x a o e).stay (fun b u _ q=>k b u q) (fun _ q=>q) fun _ _ q=>q
theorem HOk.laid(x:HOk P w H h)(k:∀b u,h.get? b=some u→h'.get? b=some u)(hp:h.objs.size≤a)(new:Zcw P w (upd H a o) h' a o):HOk P w (upd H a o) h':=fun b u e=>by
 have hn:=x.fresh hp
 by_cases hb:b=a
 ·subst hb;rw[Zab]at e;cases e;exact new
 ·rw[Zy hb]at e
  exact(x b u e).stay (fun c v _ q=>k c v q) (fun c q=>by rw[Zy (Zca q hn)];exact q) fun c xs q=>by rw[Zy (Zca q hn)];exact q
end
noncomputable def Rd(H:Hp)(a:Addr)(u:HO):Prop:=H a=some u∨∃o,H a=some (.frz o u)
theorem Rd.ok{P:Program}{w:World}{H:Hp}{h:Heap}{a:Addr}{u:HO}(r:Rd H a u)(x:HOk P w H h):Zcw P w H h a u:=by
 rcases r with r|⟨o,r⟩
 ·exact x a u r
 ·obtain⟨_,q⟩:=x a _ r
  exact q
noncomputable def HK(H:Hp)(a:Addr)(kvs:List (Key×V)):Prop:=∃ep,H a=some (.dK kvs ep)
noncomputable def HTt(H:Hp)(a:Addr)(kvs:List (List Key×V)):Prop:=∃ep bs,H a=some (.dT kvs ep bs)
noncomputable def RdK(H:Hp)(a:Addr)(kvs:List (Key×V)):Prop:=∃ep,Rd H a (.dK kvs ep)
noncomputable def RdT(H:Hp)(a:Addr)(kvs:List (List Key×V)):Prop:=∃ep bs,Rd H a (.dT kvs ep bs)
noncomputable def putB(kvs:List (List Key×V))(bs:List Addr)(k:List Key)(b:Addr):List Addr:=if(kvs.any fun kv=>decide (kv.1=k))=true then bs else bs++[b]
noncomputable def Mut:Option HO→Prop
 |some (.lst _)=>True
 |some (.dK _ _)=>True
 |some (.dT _ _ _)=>True
 |some (.set _ _)=>True
 |some (.ins _ _ _)=>True
 |some (.ext _)=>True
 |_=>False
section
variable{P:Program}{w:World}{H:Hp}{h h':Heap}{x e:Addr}{o':HO}
theorem HOk.write(ok:HOk P w H h)(mu:Mut (H x))(he:e=x∨H e=some (.own x))(k:∀b u,b≠e→h.get? b=some u→h'.get? b=some u)(heo:∃u,h'.get? e=some u)
  (new:Zcw P w (upd H x o') h' x o'):HOk P w (upd H x o') h':=fun b u q=>by
 have nown:∀c y,H c=some (.own y)→c≠x:=fun c y r z=>by subst z;rw[r]at mu;exact mu
 have ntup:∀c xs,H c=some (.tup xs)→c≠x:=fun c xs r z=>by subst z;rw[r]at mu;exact mu
 by_cases hb:b=x
 ·subst hb;rw[Zab]at q;cases q;exact new
 ·rw[Zy hb]at q
  by_cases hbe:b=e
  ·have q':H b=some (.own x):=by
    rcases he with z|z
    ·exact absurd (hbe.trans z) hb
    ·rw[hbe];exact z
   rw[q]at q';cases q'
   obtain⟨v,hv⟩:=heo
   exact⟨v,by rw[hbe];exact hv⟩
  ·refine(ok b u q).stay (fun c v hc r=>k c v ?_ r) (fun c r=>by rw[Zy (nown c b r)];exact r) fun c xs r=>by rw[Zy (ntup c xs r)];exact r
   rcases hc with rfl|hc
   ·exact hbe
   ·rintro rfl
    rcases he with z|z
    ·exact nown c b hc z
    ·rw[hc]at z;cases z;exact hb rfl
end
structure Un(fs ex:List Addr)(H H':Hp)(h h':Heap):Prop where
 keep:∀b o,h.get? b=some o→H b=none→b∉fs→b∉ex→h'.get? b=some o
 slot:∀b o,h.get? b=some o→H b=none→b∈fs→b∉ex→∃sl,h'.get? b=some {o with slots:=sl}
 free:∀b o,h.get? b=some o→H b=none→b∉ex→H' b=none
 there:∀b o,h.get? b=some o→b∉ex→∃o',h'.get? b=some o'
 tups:∀b xs,H b=some (.tup xs)→H' b=some (.tup xs)
 frzs:∀b o u,H b=some (.frz o u)→H' b=some (.frz o u)
 tbls:∀b ps,H b=some (.tbl ps)→∃more,H' b=some (.tbl (ps++more))
section
variable{fs fs' ex ex':List Addr}{H H1 H2:Hp}{h h1 h2 h':Heap}{a x e:Addr}{o:HO}
theorem Un.any(u:Un fs ex H H1 h h1){b:Addr}{ob:Obj}(q:h.get? b=some ob)(n:H b=none)(hx:b∉ex):∃sl,h1.get? b=some {ob with slots:=sl}:=by
 by_cases hb:b∈fs
 ·exact u.slot b ob q n hb hx
 ·exact⟨ob.slots,u.keep b ob q n hb hx⟩
theorem Un.kept(k:∀b u,h.get? b=some u→h'.get? b=some u):Un fs ex H H h h':=
 ⟨fun b ob q _ _ _=>k b ob q,fun b ob q _ _ _=>⟨ob.slots,k b ob q⟩,fun _ _ _ n _=>n,fun b ob q _=>⟨ob,k b ob q⟩,fun _ _ q=>q,fun _ _ _ q=>q,fun _ ps q=>⟨#[],by rw[q];simp⟩⟩
theorem Un.refl:Un fs ex H H h h:=Un.kept fun _ _ q=>q
theorem Un.laid(k:∀b u,h.get? b=some u→h'.get? b=some u)(hp:h.objs.size≤a)(hn:H a=none):Un fs ex H (upd H a o) h h' where
 keep:=fun b u q _ _ _=>k b u q
 slot:=fun b u q _ _ _=>⟨u.slots,k b u q⟩
 free:=fun b u q n _=>by rw[Zy (Nat.ne_of_lt (Nat.lt_of_lt_of_le (Heap.lt_size q) hp))];exact n
 there:=fun b u q _=>⟨u,k b u q⟩
 tups:=fun b xs q=>by rw[Zy (Zca q hn)];exact q
 frzs:=fun b u xs q=>by rw[Zy (Zca q hn)];exact q
 tbls:=fun b ps q=>⟨#[],by rw[Zy (Zca q hn),q];simp⟩
theorem Un.write(mu:Mut (H x))(he:e=x∨H e=some (.own x))(k:∀b u,b≠e→h.get? b=some u→h'.get? b=some u)(heo:∃u,h'.get? e=some u):Un fs ex H (upd H x o) h h':=by
 have hx:∀b,H b=none→b≠x:=fun b n z=>by subst z;rw[n]at mu;exact mu
 have hb:∀b,H b=none→b≠e:=fun b n z=>by
  subst z
  rcases he with r|r
  ·exact hx b n r
  ·rw[n]at r;cases r
 have hm:∀b u,H b=some u→¬Mut (some u)→b≠x:=fun b u q nm z=>by subst z;rw[q]at mu;exact nm mu
 refine⟨fun b u q n _ _=>k b u (hb b n) q,fun b u q n _ _=>⟨u.slots,k b u (hb b n) q⟩,fun b u q n _=>by rw[Zy (hx b n)];exact n,fun b u q _=>?_,
  fun b xs q=>by rw[Zy (hm b _ q fun z=>z)];exact q,fun b u xs q=>by rw[Zy (hm b _ q fun z=>z)];exact q,fun b ps q=>⟨#[],by rw[Zy (hm b _ q fun z=>z),q];simp⟩⟩
 by_cases hbe:b=e
 ·subst hbe;exact heo
 ·exact⟨u,k b u hbe q⟩
end
noncomputable def trk(h:Heap)(H:Hp):List Addr:=(List.range h.objs.size).filter fun a=>(H a).isSome
noncomputable def hidT(h:Heap)(H:Hp):Heap:=PySem.W.hideAll h (trk h H)
theorem Zlq(h:Heap)(H:Hp):(hidT h H).objs.size=h.objs.size:=PySem.W.hideAll_size _ _
theorem Zor{h:Heap}{H:Hp}{b:Addr}{o:Obj}(e:h.get? b=some o)(n:H b=none):(hidT h H).get? b=some o:=
 PySem.W.hideAll_get _ e fun hm=>by
  have q:(H b).isSome=true:=(List.mem_filter.mp hm).2
  rw[n]at q;simp at q
theorem Zrr{h:Heap}{H:Hp}{b:Addr}{o:Obj}(e:(hidT h H).get? b=some o):h.get? b=some o∧H b=none:=by
 have e':h.get? b=some o:=PySem.W.of_hideAll (trk h H) e
 refine⟨e',?_⟩
 cases q:H b with
 |none=>rfl
 |some x=>
  have hm:b∈trk h H:=List.mem_filter.mpr ⟨List.mem_range.mpr (Heap.lt_size e'),by simp[q]⟩
  have z:(hidT h H).get? b=none:=PySem.W.hideAll_none (trk h H) hm
  rw[z]at e;cases e
noncomputable def Zrs(g h:Heap)(L:Addr):List (Addr×Obj):=(List.range h.objs.size).filterMap fun a=>if a=L∨(g.get? a).isSome=true then none else(h.get? a).map fun o=>(a,o)
noncomputable def rest(g h:Heap)(L d:Addr):List (Addr×Obj):=(Zrs g h L).filter fun p=>decide (p.1≠d)
end L2
namespace L2
open PySem PySem.Spec PyProof.Rows
structure Mod(K:PySem.W.Frag)(mg:Str→Option Value)(base:Heap):Prop where
 kin:K.In base
 glob:base.Ns mainGlobals mg
 blt:∃mb,base.Ns builtinsNs mb∧∀x:Str,x≠"__name__"→mb x=bootBuiltins x
 nolimit:base.NoLimit
set_option genInjectivity false in
structure Cx where
 prog:Program
 w:World
 K:PySem.W.Frag
 mg:Str→Option Value
 base:Heap
 A:Around
 N:List Str
 s₀:Shared
 H₀:Hp
 env:Env
 outer:List Env
 stack:List Env
 ex:List Addr
 fn:Str→Bool
 calm:Bool
 pn:List (Addr×Obj)
 xe:Value→Shared→Prop
noncomputable def frs(l:List Env):List Addr:=l.filterMap (·.frame)
noncomputable abbrev Cx.fs(X:Cx):List Addr:=frs X.outer
noncomputable def Vis(sc:Scope)(x:Str):Prop:=sc.names.lookup x=some .local∨sc.names.lookup x=some .cell∨sc.names.lookup x=some .free
noncomputable def Loc(sc:Scope)(x:Str):Prop:=sc.names.lookup x=some .local∨sc.names.lookup x=some .cell
noncomputable def Look(env:Env)(h:Heap)(m:Str→Option Value)(x:Str)(u:Value):Prop:=
 (env.kindOf x=some .local∧m x=some u)∨((env.kindOf x=some .cell∨env.kindOf x=some .free)∧∃c,env.cells.lookup x=some c∧h.IsCell c (some u))
set_option genInjectivity false in
structure Cx.Ok(X:Cx):Prop where
 mod:Mod X.K X.mg X.base
 kind:X.env.scope.kind= .function
 glob:X.env.globals=mainGlobals
 blt:X.env.builtins=builtinsNs
 above:X.s₀.heap.objs.size≤X.env.locals
 inj:∀x y c,X.env.cells.lookup x=some c→X.env.cells.lookup y=some c→x=y
 has:∀x,(X.env.kindOf x=some .cell∨X.env.kindOf x=some .free)→∃c,X.env.cells.lookup x=some c
 cab:∀x c,X.fn x=true→X.env.cells.lookup x=some c→X.s₀.heap.objs.size≤c
 hd:X.calm=true→X.A.handled=none
 frames:X.A.frames=some X.stack
 stk:X.stack=X.outer∨(X.stack=X.env::X.outer∧X.env.frame=some X.env.locals)
 exf:∀b∈X.ex,b≠X.env.locals∧∀x c,X.env.cells.lookup x=some c→c≠b
 bs:∀b o,X.base.get? b=some o→X.s₀.heap.get? b=some o∧X.H₀ b=none
 bsz:X.base.objs.size≤X.s₀.heap.objs.size
 noex:∀b o,X.base.get? b=some o→b∉X.ex
 exfs:∀b∈X.ex,b∉X.fs
 funs:X.s₀.heap.FunFrames X.base X.outer
 frf:∀b∈X.fs,X.H₀ b=none
structure Inv(X:Cx)(pins:List (Addr×Obj))(σ:List (Option V))(H:Hp)(s:Shared):Prop where
 ok:X.Ok
 os:s.os=X.s₀.os
 bare:AllBare s.gens
 base:Un X.fs X.ex X.H₀ H X.s₀.heap s.heap
 loc:∃m,s.heap.Ns X.env.locals m∧∀(i:Nat) (x:Str) (v:V),X.N[i]? =some x→σ[i]? =some (some v)→Vis X.env.scope x→∃u,RelV v u∧Look X.env s.heap m x u
 cell:∀x c,X.env.cells.lookup x=some c→∃v,s.heap.IsCell c v
 free:H X.env.locals=none
 freeC:∀x c,X.env.cells.lookup x=some c→H c=none
 pin:∀p∈X.pn++pins,s.heap.get? p.1=some p.2∧H p.1=none∧p.1≠X.env.locals∧p.1∉X.fs∧∀v,p.2.data≠.cell v
 hok:HOk X.prog X.w H s.heap
 len:σ.length=X.N.length
section
variable{X:Cx}{pins:List (Addr×Obj)}{σ:List (Option V)}{H H':Hp}{s:Shared}{h':Heap}
theorem Cx.Ok.nofr(ok:X.Ok){b:Addr}{o:Obj}(e:X.base.get? b=some o):b∉X.fs:=fun hb=>by
 have:=(ok.funs.mem hb).1
 rw[e]at this;cases this
theorem Inv.bs(I:Inv X pins σ H s):∀b o,X.base.get? b=some o→s.heap.get? b=some o∧H b=none:=fun b o e=>
 ⟨I.base.keep b o (I.ok.bs b o e).1 (I.ok.bs b o e).2 (I.ok.nofr e) (I.ok.noex b o e),I.base.free b o (I.ok.bs b o e).1 (I.ok.bs b o e).2 (I.ok.noex b o e)⟩
theorem Inv.bk(I:Inv X pins σ H s):∀b o,X.base.get? b=some o→s.heap.get? b=some o:=fun b o e=>(I.bs b o e).1
theorem Inv.mod(I:Inv X pins σ H s):Mod X.K X.mg X.base:=I.ok.mod
theorem Inv.kIn(I:Inv X pins σ H s):X.K.In s.heap:=I.ok.mod.kin.keeps I.bk
theorem Inv.lt(I:Inv X pins σ H s):X.env.locals<s.heap.objs.size:=let⟨_,hn,_⟩:=I.loc;hn.lt
theorem Inv.sz(I:Inv X pins σ H s):X.s₀.heap.objs.size≤s.heap.objs.size:=Nat.le_trans I.ok.above (Nat.le_of_lt I.lt)
theorem Inv.nofs(I:Inv X pins σ H s){a:Addr}(h:s.heap.objs.size≤a):a∉X.fs:=fun hb=>by
 obtain⟨_,o,ho,_⟩:=I.ok.funs.mem hb
 exact absurd (Nat.lt_of_lt_of_le (Heap.lt_size ho) (Nat.le_trans I.sz h)) (Nat.lt_irrefl _)
theorem Inv.cne(I:Inv X pins σ H s):∀x c,X.env.cells.lookup x=some c→c≠X.env.locals:=fun x c e z=>by
 obtain⟨v,o,ho,hd⟩:=I.cell x c e
 obtain⟨m,⟨o',es,ep,ho',hd',_⟩,_⟩:=I.loc
 rw[z,ho']at ho;cases ho;rw[hd']at hd;cases hd
theorem Inv.funs(I:Inv X pins σ H s):s.heap.FunFrames X.base X.outer:=by
 have all:∀(l:List Env),(∀b∈frs l,b∈X.fs)→X.s₀.heap.FunFrames X.base l→s.heap.FunFrames X.base l:=by
  intro l
  induction l with
  |nil=>intro _ _;trivial
  |cons env r ih=>
   intro hs hl
   obtain⟨hk,⟨L,o,hf,hn,ho,hd⟩,hr⟩:=hl
   have hL:L∈X.fs:=hs L (by unfold frs;rw[List.filterMap_cons,hf];exact List.mem_cons_self)
   obtain⟨sl,e⟩:=I.base.slot L o ho (I.ok.frf L hL) hL fun z=>I.ok.exfs L z hL
   exact⟨hk,⟨L,_,hf,hn,e,hd⟩,ih (fun b hb=>hs b (by unfold frs;rw[List.filterMap_cons,hf];exact List.mem_cons_of_mem _ hb)) hr⟩
 exact all X.outer (fun _ hb=>hb) I.ok.funs
theorem Inv.stack(I:Inv X pins σ H s):s.heap.FunFrames X.base X.stack:=by
 rcases I.ok.stk with e|⟨e,hf⟩
 ·rw[e];exact I.funs
 ·rw[e]
  obtain⟨m,hn,_⟩:=I.loc
  refine .cons (by rw[I.ok.kind];decide) hf hn ?_ I.funs
  exact Heap.get?_none_of_le (Nat.le_trans I.ok.bsz I.ok.above)
theorem Inv.stkSub(I:Inv X pins σ H s):∀b∈frs X.stack,b∈X.env.locals::X.fs:=fun b hb=>by
 rcases I.ok.stk with e|⟨e,hf⟩
 ·rw[e]at hb;exact List.mem_cons_of_mem _ hb
 ·rw[e]at hb
  unfold frs at hb
  rw[List.filterMap_cons,hf]at hb
  exact hb
theorem Inv.stkFree(I:Inv X pins σ H s):∀b∈frs X.stack,H b=none:=fun b hb=>by
 rcases List.mem_cons.mp (I.stkSub b hb)with e|hb
 ·rw[e];exact I.free
 ·obtain⟨_,o,ho,_⟩:=I.ok.funs.mem hb
  exact I.base.free b o ho (I.ok.frf b hb) fun z=>I.ok.exfs b z hb
theorem Inv.step{g':Array GenState}{t':Nat}{d':Drawn}{ch:List Addr}(I:Inv X pins σ H s)
  (hch:∀b∈ch,(b∈X.ex∨X.s₀.heap.objs.size≤b)∧b≠X.env.locals∧(∀x c,X.env.cells.lookup x=some c→c≠b)∧∀p∈X.pn++pins,p.1≠b)
  (keep:∀b o,b≠X.env.locals→b∉X.fs→b∉ch→s.heap.get? b=some o→H b=none→h'.get? b=some o)
  (slot:∀b o,b≠X.env.locals→b∈X.fs→b∉ch→s.heap.get? b=some o→H b=none→∃sl,h'.get? b=some {o with slots:=sl}) (free:∀b o,b∉ch→s.heap.get? b=some o→H b=none→H' b=none)
  (there:∀b o,b∉ch→s.heap.get? b=some o→∃o',h'.get? b=some o')
  (tups:∀b xs,H b=some (.tup xs)→H' b=some (.tup xs)) (frzs:∀b o u,H b=some (.frz o u)→H' b=some (.frz o u)) (tbls:∀b ps,H b=some (.tbl ps)→∃more,H' b=some (.tbl (ps++more)))
  (ns:∀m,s.heap.Ns X.env.locals m→h'.Ns X.env.locals m) (hok:HOk X.prog X.w H' h') (hg:AllBare g'):
  Inv X pins σ H' {s with heap:=h',gens:=g',drawn:=d',toks:=t'}:=by
 have neL:∀b o,X.s₀.heap.get? b=some o→b≠X.env.locals:=fun b o e=>Nat.ne_of_lt (Nat.lt_of_lt_of_le (Heap.lt_size e) I.ok.above)
 have neC:∀b o,X.s₀.heap.get? b=some o→b∉X.ex→b∉ch:=fun b o e hx hb=>by
  rcases(hch b hb).1 with z|z
  ·exact hx z
  ·exact absurd (Nat.lt_of_lt_of_le (Heap.lt_size e) z) (Nat.lt_irrefl _)
 have cellK:∀x c,X.env.cells.lookup x=some c→∀v,s.heap.IsCell c v→h'.IsCell c v:=fun x c e v ⟨o,ho,hd⟩=>by
  have nch:c∉ch:=fun z=>(hch c z).2.2.1 x c e rfl
  by_cases hc:c∈X.fs
  ·obtain⟨sl,q⟩:=slot c o (I.cne x c e) hc nch ho (I.freeC x c e)
   exact⟨_,q,hd⟩
  ·exact⟨o,keep c o (I.cne x c e) hc nch ho (I.freeC x c e),hd⟩
 refine⟨I.ok,I.os,hg,⟨fun b o e n hb hx=>?_,fun b o e n hb hx=>?_,fun b o e n hx=>?_,fun b o e hx=>?_,fun b xs e=>tups b xs (I.base.tups b xs e),fun b o xs e=>frzs b o xs (I.base.frzs b o xs e),fun b ps e=>?_⟩,?_,fun x c e=>?_,?_,fun x c e=>?_,fun p hp=>?_,hok,I.len⟩
 ·exact keep b o (neL b o e) hb (neC b o e hx) (I.base.keep b o e n hb hx) (I.base.free b o e n hx)
 ·obtain⟨sl,e1⟩:=I.base.slot b o e n hb hx
  obtain⟨sl',e2⟩:=slot b _ (neL b o e) hb (neC b o e hx) e1 (I.base.free b o e n hx)
  exact⟨sl',e2⟩
 ·obtain⟨o',e1⟩:=I.base.there b o e hx
  exact free b o' (neC b o e hx) e1 (I.base.free b o e n hx)
 ·obtain⟨o',e1⟩:=I.base.there b o e hx
  exact there b o' (neC b o e hx) e1
 ·obtain⟨m1,e1⟩:=I.base.tbls b ps e
  obtain⟨m2,e2⟩:=tbls b _ e1
  exact⟨m1++m2,by rw[e2,Array.append_assoc]⟩
 ·obtain⟨m,hn,hl⟩:=I.loc
  refine⟨m,ns m hn,fun i x v e1 e2 e3=>?_⟩
  obtain⟨u,r,l⟩:=hl i x v e1 e2 e3
  refine⟨u,r,?_⟩
  rcases l with l|⟨k,c,e,z⟩
  ·exact .inl l
  ·exact .inr ⟨k,c,e,cellK x c e _ z⟩
 ·obtain⟨v,z⟩:=I.cell x c e
  exact⟨v,cellK x c e v z⟩
 ·obtain⟨m,⟨o,_,_,ho,_⟩,_⟩:=I.loc
  exact free _ o (fun z=>(hch _ z).2.1 rfl) ho I.free
 ·obtain⟨v,o,ho,hd⟩:=I.cell x c e
  exact free c o (fun z=>(hch c z).2.2.1 x c e rfl) ho (I.freeC x c e)
 ·obtain⟨e,n,ne,nf,d⟩:=I.pin p hp
  have nch:p.1∉ch:=fun z=>(hch p.1 z).2.2.2 p hp rfl
  exact⟨keep p.1 p.2 ne nf nch e n,free p.1 p.2 nch e n,ne,nf,d⟩
theorem Inv.un{t':Nat}(I:Inv X pins σ H s)(u:Un X.fs [] H H' s.heap h')(hok:HOk X.prog X.w H' h'):Inv X pins σ H' {s with heap:=h',toks:=t'}:=by
 obtain⟨m,⟨o,es,ep,ho,r⟩,_⟩:=id I.loc
 obtain⟨sl,hL⟩:=u.any ho I.free (by simp)
 exact I.step (g':=s.gens) (d':=s.drawn) (ch:=[]) (fun _ z=>nomatch z) (fun b o _ hb _ e n=>u.keep b o e n hb (by simp)) (fun b o _ hb _ e n=>u.slot b o e n hb (by simp)) (fun b o _ e n=>u.free b o e n (by simp)) (fun b o _ e=>u.there b o e (by simp)) u.tups u.frzs u.tbls (fun m' hm=>by
  obtain⟨o',es',ep',ho',r'⟩:=hm
  rw[ho]at ho';cases ho'
  exact⟨_,es',ep',hL,r'⟩) hok I.bare
theorem Inv.call{g':Array GenState}{t':Nat}{d':Drawn}{ch:List Addr}(I:Inv X pins σ H s)(u:Un (frs X.stack) ch H H' s.heap h')(hok:HOk X.prog X.w H' h')(hg:AllBare g')
  (hch:∀b∈ch,(b∈X.ex∨X.s₀.heap.objs.size≤b)∧b≠X.env.locals∧(∀x c,X.env.cells.lookup x=some c→c≠b)∧∀p∈X.pn++pins,p.1≠b):
  Inv X pins σ H' {s with heap:=h',gens:=g',drawn:=d',toks:=t'}:=by
 obtain⟨m,⟨o,es,ep,ho,r⟩,_⟩:=id I.loc
 obtain⟨sl,hL⟩:=u.any ho I.free fun z=>(hch _ z).2.1 rfl
 exact I.step (ch:=ch) hch (fun b o hL hb hc e n=>u.keep b o e n (fun z=>(List.mem_cons.mp (I.stkSub b z)).elim hL hb) hc) (fun b o _ _ hc e n=>u.any e n hc) (fun b o hc e n=>u.free b o e n hc) (fun b o hc e=>u.there b o e hc) u.tups u.frzs u.tbls (fun m' hm=>by
  obtain⟨o',es',ep',ho',r'⟩:=hm
  rw[ho]at ho';cases ho'
  exact⟨_,es',ep',hL,r'⟩) hok hg
theorem Inv.turned{t':Nat}{it:Addr}(I:Inv X pins σ H s)(k:∀b o,b≠it→s.heap.get? b=some o→h'.get? b=some o)(hn:H it=none)(hL:it≠X.env.locals)
  (h1:it∈X.ex∨X.s₀.heap.objs.size≤it) (h2:∀x c,X.env.cells.lookup x=some c→c≠it) (h3:∀p∈X.pn++pins,p.1≠it):Inv X pins σ H {s with heap:=h',toks:=t'}:=by
 have nit:∀b u,H b=some u→b≠it:=fun b u e z=>by rw[z,hn]at e;cases e
 refine I.step (g':=s.gens) (d':=s.drawn) (ch:=[it]) (fun b hb=>?_) (fun b o _ _ hc e _=>k b o (fun z=>hc (by simp[z])) e) (fun b o _ _ hc e _=>⟨o.slots,k b o (fun z=>hc (by simp[z])) e⟩) (fun _ _ _ _ n=>n)
  (fun b o hc e=>⟨o,k b o (fun z=>hc (by simp[z])) e⟩) (fun _ _ e=>e) (fun _ _ _ e=>e) (fun b ps e=>⟨#[],by rw[e];simp⟩) (fun m hm=>?_) (fun b u e=>?_) I.bare
 ·have e:b=it:=by simpa using hb
  subst e
  exact⟨h1,hL,h2,h3⟩
 ·obtain⟨o,es,ep,ho,r⟩:=hm
  exact⟨o,es,ep,k _ o (Ne.symm hL) ho,r⟩
 ·refine(I.hok b u e).stay (fun c v hc q=>k c v ?_ q) (fun _ q=>q) fun _ _ q=>q
  rcases hc with z|z
  ·rw[z];exact nit b u e
  ·exact nit c _ z
theorem Inv.tok(I:Inv X pins σ H s)(t:Nat):Inv X pins σ H {s with toks:=t}:=I.un (h':=s.heap) (t':=t) Un.refl I.hok
theorem Inv.kept{t':Nat}(I:Inv X pins σ H s)(k:∀b u,s.heap.get? b=some u→h'.get? b=some u):Inv X pins σ H {s with heap:=h',toks:=t'}:=I.un (Un.kept k) (I.hok.kept k)
theorem Inv.laid{a:Addr}{o:HO}{t':Nat}(I:Inv X pins σ H s)(k:∀b u,s.heap.get? b=some u→h'.get? b=some u)(hp:s.heap.objs.size≤a)(new:Zcw X.prog X.w (upd H a o) h' a o):
  Inv X pins σ (upd H a o) {s with heap:=h',toks:=t'}:=I.un (Un.laid k hp (I.hok.fresh hp)) (I.hok.laid k hp new)
theorem Inv.write{x e:Addr}{o:HO}{t':Nat}(I:Inv X pins σ H s)(mu:Mut (H x))(he:e=x∨H e=some (.own x))(k:∀b u,b≠e→s.heap.get? b=some u→h'.get? b=some u)(heo:∃u,h'.get? e=some u)
  (new:Zcw X.prog X.w (upd H x o) h' x o):Inv X pins σ (upd H x o) {s with heap:=h',toks:=t'}:=I.un (Un.write mu he k heo) (I.hok.write mu he k heo new)
theorem Inv.pins_of{pins':List (Addr×Obj)}(I:Inv X pins σ H s)(h:∀p∈pins',s.heap.get? p.1=some p.2∧H p.1=none∧p.1≠X.env.locals∧p.1∉X.fs∧∀v,p.2.data≠.cell v):Inv X pins' σ H s:=
 ⟨I.ok,I.os,I.bare,I.base,I.loc,I.cell,I.free,I.freeC,fun p hp=>(List.mem_append.mp hp).elim (fun z=>I.pin p (List.mem_append_left _ z)) (h p),I.hok,I.len⟩
theorem Zge{N:List Str}(hN:N.Nodup){i j:Nat}{x:Str}(a:N[i]? =some x)(b:N[j]? =some x):i=j:=by
 obtain⟨h1,e1⟩:=List.getElem?_eq_some_iff.mp a
 obtain⟨h2,e2⟩:=List.getElem?_eq_some_iff.mp b
 exact(List.getElem_inj hN).mp (e1.trans e2.symm)
theorem Zlr{M:Model}{A:Around}{E:Value→Shared→Prop}{i:Nat}{x:Str}{v:V}{u:Value}{Q:Unit→Shared→Prop}(I:Inv X pins σ H s)(hN:X.N.Nodup)(hi:X.N[i]? =some x)(hx:Loc X.env.scope x)(r:RelV v u)
  (h:∀s',Inv X pins (σ.set i (some v)) H s'→(∃a,Heap.SameBut a s.heap s'.heap∧(a=X.env.locals∨X.env.cells.lookup x=some a))→Q () s') (hf:X.fn x=true∨X.env.scope.names.lookup x=some .local:=by first|exact .inl rfl|exact .inr rfl|assumption):wpAny M A (storeName X.env x u) Q E s:=by
 obtain⟨m,hn,hl⟩:=id I.loc
 have hcls:(X.env.scope.kind== .class|| (X.env.scope.kind== .module&&X.env.locals !=X.env.globals))=false:=by rw[I.ok.kind];rfl
 have hiσ:i<σ.length:=by rw[I.len];exact(List.getElem?_eq_some_iff.mp hi).1
 have cne:=I.cne
 have tracked:∀{a:Addr} {h':Heap},(∃o,s.heap.get? a=some o∧H a=none)→Heap.SameBut a s.heap h'→HOk X.prog X.w H h':=fun{a h'} ha hs b ob e=>by
  obtain⟨_,_,hfree⟩:=ha
  refine(I.hok b ob e).stay (fun c w' hc q=>(hs.2 c ?_).trans q) (fun _ q=>q) fun _ _ q=>q
  rintro rfl
  rcases hc with rfl|hc
  ·rw[hfree]at e;cases e
  ·rw[hfree]at hc;cases hc
 rcases hx with hk|hk
 ·refine wpAny_storeName_local hk hn (fun h' hn' hs=>?_) hcls
  obtain⟨oL,_,_,hoL,_⟩:=id hn
  refine h _ ⟨I.ok,I.os,I.bare,⟨fun b o e n hb hx=>?_,fun b o e n hb hx=>?_,I.base.free,fun b o e hx=>?_,I.base.tups,I.base.frzs,I.base.tbls⟩,⟨_,hn',fun j y v' e1 e2 e3=>?_⟩,fun y c e=>?_,I.free,I.freeC,fun p hp=>?_,tracked ⟨oL,hoL,I.free⟩ hs,by simpa using I.len⟩ ⟨_,hs,.inl rfl⟩
  ·exact(hs.2 b (Nat.ne_of_lt (Nat.lt_of_lt_of_le (Heap.lt_size e) I.ok.above))).trans (I.base.keep b o e n hb hx)
  ·obtain⟨sl,e1⟩:=I.base.slot b o e n hb hx
   exact⟨sl,(hs.2 b (Nat.ne_of_lt (Nat.lt_of_lt_of_le (Heap.lt_size e) I.ok.above))).trans e1⟩
  ·obtain⟨o',e1⟩:=I.base.there b o e hx
   exact⟨o',(hs.2 b (Nat.ne_of_lt (Nat.lt_of_lt_of_le (Heap.lt_size e) I.ok.above))).trans e1⟩
  ·by_cases hj:j=i
   ·subst hj
    rw[hi]at e1;cases e1
    rw[List.getElem?_set_self hiσ]at e2
    cases e2
    exact⟨u,r,.inl ⟨hk,by simp⟩⟩
   ·rw[List.getElem?_set_ne (Ne.symm hj)]at e2
    obtain⟨u',r',q⟩:=hl j y v' e1 e2 e3
    refine⟨u',r',?_⟩
    rcases q with⟨k,e⟩|⟨k,c,e,z⟩
    ·refine .inl ⟨k,?_⟩
     have:y≠x:=fun e=>hj (Zge hN e1 (e▸hi))
     simp[this,e]
    ·exact .inr ⟨k,c,e,z.sameBut hs (cne y c e)⟩
  ·obtain⟨w',z⟩:=I.cell y c e
   exact⟨w',z.sameBut hs (cne y c e)⟩
  ·obtain⟨e,n,ne,nf,d⟩:=I.pin p hp
   exact⟨(hs.2 p.1 ne).trans e,n,ne,nf,d⟩
 ·have hfn:X.fn x=true:=by
   rcases hf with z|z
   ·exact z
   ·rw[z]at hk;cases hk
  obtain⟨c,hc⟩:=I.ok.has x (.inl hk)
  obtain⟨w',z⟩:=I.cell x c hc
  refine wpAny_storeName_cell I.ok.kind hk hc z (fun h' hc' hs=>?_)
  obtain⟨oc,hoc,hocd⟩:=id z
  refine h {s with heap:=h'} ⟨I.ok,I.os,I.bare,⟨fun b o e n hb hx=>?_,fun b o e n hb hx=>?_,I.base.free,fun b o e hx=>?_,I.base.tups,I.base.frzs,I.base.tbls⟩,⟨m,hn.sameBut hs (Ne.symm (cne x c hc)),fun j y v' e1 e2 e3=>?_⟩,fun y c' e=>?_,I.free,I.freeC,fun p hp=>?_,tracked ⟨oc,hoc,I.freeC x c hc⟩ hs,by simpa using I.len⟩ ⟨c,hs,.inr hc⟩
  ·exact(hs.2 b (Nat.ne_of_lt (Nat.lt_of_lt_of_le (Heap.lt_size e) (I.ok.cab x c hfn hc)))).trans (I.base.keep b o e n hb hx)
  ·obtain⟨sl,e1⟩:=I.base.slot b o e n hb hx
   exact⟨sl,(hs.2 b (Nat.ne_of_lt (Nat.lt_of_lt_of_le (Heap.lt_size e) (I.ok.cab x c hfn hc)))).trans e1⟩
  ·obtain⟨o',e1⟩:=I.base.there b o e hx
   exact⟨o',(hs.2 b (Nat.ne_of_lt (Nat.lt_of_lt_of_le (Heap.lt_size e) (I.ok.cab x c hfn hc)))).trans e1⟩
  ·by_cases hj:j=i
   ·subst hj
    rw[hi]at e1;cases e1
    rw[List.getElem?_set_self hiσ]at e2
    cases e2
    exact⟨u,r,.inr ⟨.inl hk,c,hc,hc'⟩⟩
   ·rw[List.getElem?_set_ne (Ne.symm hj)]at e2
    obtain⟨u',r',q⟩:=hl j y v' e1 e2 e3
    refine⟨u',r',?_⟩
    rcases q with q|⟨k,c',e,z'⟩
    ·exact .inl q
    ·refine .inr ⟨k,c',e,z'.sameBut hs ?_⟩
     rintro rfl
     exact hj (Zge hN e1 (I.ok.inj _ _ _ e hc▸hi))
  ·by_cases hcc:c'=c
   ·subst hcc;exact⟨_,hc'⟩
   ·obtain⟨w2,z2⟩:=I.cell y c' e
    exact⟨w2,z2.sameBut hs hcc⟩
  ·obtain⟨e,n,ne,nf,d⟩:=I.pin p hp
   refine⟨(hs.2 p.1 ?_).trans e,n,ne,nf,d⟩
   intro q
   rw[q,hoc]at e
   have q':oc=p.2:=Option.some.inj e
   exact d w' (by rw[←q'];exact hocd)
theorem Ze5{M:Model}{A:Around}{E:Value→Shared→Prop}{i:Nat}{x:Str}{v:V}{u:Value}{Q:Unit→Shared→Prop}(I:Inv X pins σ H s)(hN:X.N.Nodup)(hi:X.N[i]? =some x)(hx:Loc X.env.scope x)(r:RelV v u)
  (h:∀s',Inv X pins (σ.set i (some v)) H s'→Q () s') (hf:X.fn x=true∨X.env.scope.names.lookup x=some .local:=by first|exact .inl rfl|exact .inr rfl|assumption):wpAny M A (storeName X.env x u) Q E s:=
 Zlr I hN hi hx r (fun s' I' _=>h s' I') hf
theorem Inv.call'{s':Shared}{ch:List Addr}(I:Inv X pins σ H s)(ho:s'.os=s.os)(u:Un (frs X.stack) ch H H' s.heap s'.heap)(hok:HOk X.prog X.w H' s'.heap)(hg:AllBare s'.gens)
  (hch:∀b∈ch,(b∈X.ex∨X.s₀.heap.objs.size≤b)∧b≠X.env.locals∧(∀x c,X.env.cells.lookup x=some c→c≠b)∧∀p∈X.pn++pins,p.1≠b):Inv X pins σ H' s':=by
 obtain⟨h',g',d',t',o'⟩:=s'
 have e:o'=s.os:=ho
 subst e
 exact I.call (g':=g') (t':=t') (d':=d') u hok hg hch
end
noncomputable abbrev XK:=Value→Option Addr→Hp→Prop
noncomputable abbrev St:=List (Option V)
noncomputable abbrev VK:=V→Hp→Prop
noncomputable abbrev TE:=St→Hp→VK→Prop
noncomputable abbrev TT:=St→Hp→(Bool→Hp→Prop)→Prop
noncomputable abbrev TA:=St→Hp→(List V→Hp→Prop)→Prop
set_option genInjectivity false in
structure Ends where
 nx:St→Hp→Prop
 rt:VK
 bk:St→Hp→Prop:=fun _ _=>False
 ct:St→Hp→Prop:=fun _ _=>False
noncomputable abbrev TS:=Ends→St→Hp→Prop
noncomputable def EP(X:Cx)(pins:List (Addr×Obj))(σ:St)(Q:VK)(u:Value)(s':Shared):Prop:=∃v H',Inv X pins σ H' s'∧RelV v u∧Q v H'
noncomputable def TP(X:Cx)(pins:List (Addr×Obj))(σ:St)(Q:Bool→Hp→Prop)(b:Bool)(s':Shared):Prop:=∃H',Inv X pins σ H' s'∧Q b H'
noncomputable def AP(X:Cx)(pins:List (Addr×Obj))(σ:St)(Q:List V→Hp→Prop)(us:List Value)(s':Shared):Prop:=∃vs H',Inv X pins σ H' s'∧Vals vs us∧Q vs H'
noncomputable def SP(X:Cx)(pins:List (Addr×Obj))(D:Ends)(f:Flow)(s':Shared):Prop:=
 match f with
 | .next=>∃σ' H',Inv X pins σ' H' s'∧D.nx σ' H'
 | .brk=>∃σ' H',Inv X pins σ' H' s'∧D.bk σ' H'
 | .cont=>∃σ' H',Inv X pins σ' H' s'∧D.ct σ' H'
 | .ret u=>∃v σ' H',Inv X pins σ' H' s'∧RelV v u∧D.rt v H'
noncomputable def PE(X:Cx)(e:Expr)(t:TE):Prop:=
 ∀(pins:List (Addr×Obj)) (s:Shared) (σ:St) (H:Hp) (Q:VK),Inv X pins σ H s→t σ H Q→wpAny (model X.prog X.w) X.A (eval e X.env) (EP X pins σ Q) X.xe s
noncomputable def PT(X:Cx)(e:Expr)(t:TT):Prop:=
 ∀(pins:List (Addr×Obj)) (s:Shared) (σ:St) (H:Hp) (Q:Bool→Hp→Prop),Inv X pins σ H s→t σ H Q→wpAny (model X.prog X.w) X.A (isTrue e X.env (eval e X.env)) (TP X pins σ Q) X.xe s
noncomputable def PW(X:Cx)(e:Expr)(t:TT):Prop:=
 ∀(whole:Sem Value) (pins:List (Addr×Obj)) (s:Shared) (σ:St) (H:Hp) (Q:Bool→Hp→Prop),Inv X pins σ H s→t σ H Q→wpAny (model X.prog X.w) X.A (isTrue e X.env whole) (TP X pins σ Q) X.xe s
theorem PW.pt{X:Cx}{e:Expr}{t:TT}(h:PW X e t):PT X e t:=h _
noncomputable def PA(X:Cx)(es:List Expr)(t:TA):Prop:=
 ∀(pos:Pos) (pins:List (Addr×Obj)) (s:Shared) (σ:St) (H:Hp) (Q:List V→Hp→Prop),Inv X pins σ H s→t σ H Q→wpAny (model X.prog X.w) X.A (spliced (backTo pos (starEach es X.env))) (AP X pins σ Q) X.xe s
noncomputable def PS(X:Cx)(st:Stmt)(t:TS):Prop:=
 ∀(pins:List (Addr×Obj)) (s:Shared) (σ:St) (H:Hp) (D:Ends),Inv X pins σ H s→t D σ H→wpAny (model X.prog X.w) X.A (exec st X.env) (SP X pins D) X.xe s
noncomputable def PSs(X:Cx)(st:List Stmt)(t:TS):Prop:=
 ∀(pins:List (Addr×Obj)) (s:Shared) (σ:St) (H:Hp) (D:Ends),Inv X pins σ H s→t D σ H→wpAny (model X.prog X.w) X.A (execs st X.env) (SP X pins D) X.xe s
theorem thn{α:Type}{t:Sem α}{Q Q':α→Shared→Prop}{M:Model}{A:Around}{E:Value→Shared→Prop}{s:Shared}(h:wpAny M A t Q E s)(hQ:∀a s,Q a s→Q' a s):wpAny M A t Q' E s:=wpAny_mono h hQ fun _ _ x=>x
end L2
namespace L2
open PySem PySem.Spec PyProof.Rows
section
variable{X:Cx}
noncomputable def tVar(i:Nat):TE:=fun σ H Q=>∃v,σ[i]? =some (some v)∧Q v H
noncomputable def tC(v:V):TE:=fun _ H Q=>Q v H
theorem Zg6{i:Nat}{x:Str}{pos:Pos}(hN:X.N[i]? =some x)(hv:Vis X.env.scope x)(hd:(x==("__debug__":Str))=false:=by decide)(hcd:(x==("__classdict__":Str))=false:=by decide):PE X (.Name x pos) (tVar i):=by
 intro pins s σ H Q I h
 obtain⟨v,e,h⟩:=h
 obtain⟨m,hn,hl⟩:=I.loc
 obtain⟨u,r,l⟩:=hl i x v hN e hv
 have fin:EP X pins σ Q u s:=⟨v,H,I,r,h⟩
 rcases l with⟨hk,hm⟩|⟨hk,c,hc,hcell⟩
 ·exact wpAny_Name (wpAny_loadName_local I.ok.kind hk hn hm fin) hd
 ·rcases hk with hk|hk
  ·exact wpAny_Name (wpAny_loadName_cell I.ok.kind hk hc hcell fin) hd
  ·exact wpAny_Name (wpAny_loadName_free I.ok.kind hk hc hcell fin hcd) hd
theorem Zjh{i j pos}:PE X (.Constant (.int i) j pos) (tC (.int i)):=fun _ _ _ H _ I h=>wpAny_Constant_int ⟨.int i,H,I.tok _,⟨_,rfl⟩,h⟩
theorem Zy4{b j pos}:PE X (.Constant (.bool b) j pos) (tC (.bl b)):=fun _ _ _ H _ I h=>Constant_bool ⟨.bl b,H,I,rfl,h⟩
theorem Zul{j pos}:PE X (.Constant .none j pos) (tC .non):=fun _ _ _ H _ I h=>Constant_none ⟨.non,H,I,rfl,h⟩
theorem Zls{x j pos}:PE X (.Constant (.str x) j pos) (tC (.str x)):=fun _ _ _ H _ I h=>Calls.Constant_str ⟨.str x,H,I.tok _,⟨_,rfl⟩,h⟩
noncomputable def Gl(X:Cx)(x:Str):Prop:=X.env.kindOf x=some .globalImplicit
theorem Zfc{E:Value→Shared→Prop}{pins:List (Addr×Obj)}{s:Shared}{σ:St}{H:Hp}{x:Str}{u:Value}{pos:Pos}{Q:Value→Shared→Prop}(I:Inv X pins σ H s)(hg:Gl X x)(hm:X.mg x=some u)(h:Q u s)
  (hd:(x==("__debug__":Str))=false:=by decide):wpAny (model X.prog X.w) X.A (eval (.Name x pos) X.env) Q E s:=
 Calls.Name_function_global I.ok.kind hg (Calls.loadGlobal_global (by rw[I.ok.glob];exact I.mod.glob.keeps I.bk) hm h) hd
theorem Zji{E:Value→Shared→Prop}{pins:List (Addr×Obj)}{s:Shared}{σ:St}{H:Hp}{x:Str}{u:Value}{pos:Pos}{Q:Value→Shared→Prop}(I:Inv X pins σ H s)(hg:Gl X x)(hm:X.mg x=none)(hv:bootBuiltins x=some u)(h:Q u s)
  (hn:x≠"__name__":=by decide) (hd:(x==("__debug__":Str))=false:=by decide):wpAny (model X.prog X.w) X.A (eval (.Name x pos) X.env) Q E s:=by
 obtain⟨mb,h1,h2⟩:=I.mod.blt
 exact Calls.Name_function_global I.ok.kind hg (Calls.loadGlobal_builtin (by rw[I.ok.glob];exact I.mod.glob.keeps I.bk) hm (by rw[I.ok.blt];exact h1.keeps I.bk) ((h2 x hn).trans hv) h) hd
theorem Zgf{x:Str}{v:V}{u:Value}{pos:Pos}(hg:Gl X x)(hm:X.mg x=some u)(r:RelV v u)(hd:(x==("__debug__":Str))=false:=by decide):PE X (.Name x pos) (tC v):=
 fun _ _ _ H _ I h=>Zfc I hg hm ⟨v,H,I,r,h⟩ hd
theorem Zlt{x:Str}{v:V}{u:Value}{pos:Pos}(hg:Gl X x)(hm:X.mg x=none)(hv:bootBuiltins x=some u)(r:RelV v u)(hn:x≠"__name__":=by decide)(hd:(x==("__debug__":Str))=false:=by decide):PE X (.Name x pos) (tC v):=
 fun _ _ _ H _ I h=>Zji I hg hm hv ⟨v,H,I,r,h⟩ hn hd
noncomputable def t2I(ta tb:TE)(k:Int→Int→Hp→Prop):St→Hp→Prop:=fun σ H=>ta σ H fun x H1=>tb σ H1 fun y H2=>∃i j,x= .int i∧y= .int j∧k i j H2
noncomputable def tAdd(ta tb:TE):TE:=fun σ H Q=>t2I ta tb (fun i j H2=>Q (.int (i+j)) H2) σ H
noncomputable def tSub(ta tb:TE):TE:=fun σ H Q=>t2I ta tb (fun i j H2=>Q (.int (i- j)) H2) σ H
noncomputable def tMul(ta tb:TE):TE:=fun σ H Q=>t2I ta tb (fun i j H2=>(-(2^64)<i∧i<2^64)∧Q (.int (i*j)) H2) σ H
variable{a b:Expr}{ta tb:TE}{pos:Pos}
noncomputable def PC(X:Cx)(op:CmpOp)(a b:Expr)(t:TE):Prop:=
 ∀(pins:List (Addr×Obj)) (s:Shared) (σ:St) (H:Hp) (Q:VK),Inv X pins σ H s→t σ H Q→
  wpAny (model X.prog X.w) X.A (eval a X.env) (fun v s₁=>wpAny (model X.prog X.w) X.A (eval b X.env) (fun u s₂=>wpAny (model X.prog X.w) X.A (compareOp op v u) (EP X pins σ Q) X.xe s₂) X.xe s₁) X.xe s
noncomputable def tCmp(p:Int→Int→Bool)(ta tb:TE):TE:=fun σ H Q=>t2I ta tb (fun i j H2=>Q (.bl (p i j)) H2) σ H
noncomputable abbrev tLt:TE→TE→TE:=tCmp fun i j=>decide (i<j)
noncomputable abbrev tLe:TE→TE→TE:=tCmp fun i j=>decide (i≤j)
noncomputable abbrev tGt:TE→TE→TE:=tCmp fun i j=>decide (j<i)
noncomputable abbrev tGe:TE→TE→TE:=tCmp fun i j=>decide (j≤i)
noncomputable abbrev tEqI:TE→TE→TE:=tCmp fun i j=>decide (i=j)
noncomputable abbrev tNeI:TE→TE→TE:=tCmp fun i j=>!decide (i=j)
noncomputable def tIsN(ta:TE):TE:=fun σ H Q=>ta σ H fun x H1=>Q (.bl (decide (x= .non))) H1
noncomputable def Z29(ta:TE):TE:=fun σ H Q=>ta σ H fun x H1=>Q (.bl (!decide (x= .non))) H1
noncomputable def tB(t:TE):TT:=fun σ H Q=>t σ H fun x H1=>∃c,x= .bl c∧Q c H1
theorem Zum{e:Expr}{t:TE}(h:PE X e t)(he:∀whole,isTrue e X.env whole=(do let v←whole;standAt e.pos;holding [v] (truthy v)):=by intro _;rfl):PT X e (tB t):=by
 intro pins s σ H Q I hw
 refine isTrue_plain (thn (h pins s σ H _ I hw) fun v s1 ⟨x,H1,I1,r1,q1⟩=>?_) (he _)
 obtain⟨d,rfl,q⟩:=q1
 cases r1
 exact wpAny_truthy_bool ⟨H1,I1,q⟩
variable{tA tB':TT}{rest:List Expr}
noncomputable def tAnd(t u:TT):TT:=fun σ H Q=>t σ H fun c H1=>if c=true then u σ H1 Q else Q false H1
noncomputable def tOr(t u:TT):TT:=fun σ H Q=>t σ H fun c H1=>if c=true then Q true H1 else u σ H1 Q
noncomputable def tNot(t:TT):TT:=fun σ H Q=>t σ H fun c H1=>Q (!c) H1
theorem Zrt(ha:PT X a tA):PW X (.BoolOp .And [a] pos) tA:=by
 intro wh pins s σ H Q I h
 refine isTrue_and (thn (ha pins s σ H Q I h) fun c s1 e=>?_)
 cases c with
 |true=>exact isTrue_and_nil e
 |false=>exact e
theorem Zun(ha:PT X a tA):PW X (.BoolOp .Or [a] pos) tA:=by
 intro wh pins s σ H Q I h
 refine isTrue_or (thn (ha pins s σ H Q I h) fun c s1 e=>?_)
 cases c with
 |false=>exact isTrue_or_nil e
 |true=>exact e
theorem Zuo(ha:PT X a tA)(hb:PW X (.BoolOp .And (b::rest) pos) tB'):PW X (.BoolOp .And (a::b::rest) pos) (tAnd tA tB'):=by
 intro wh pins s σ H Q I h
 refine isTrue_and (thn (ha pins s σ H _ I h) fun c s1 zq9=>?_)
 obtain⟨H1,I1,q1⟩:=zq9
 cases c with
 |true=>exact hb wh pins s1 σ H1 Q I1 q1
 |false=>exact⟨H1,I1,q1⟩
theorem Zy5(ha:PT X a tA)(hb:PW X (.BoolOp .Or (b::rest) pos) tB'):PW X (.BoolOp .Or (a::b::rest) pos) (tOr tA tB'):=by
 intro wh pins s σ H Q I h
 refine isTrue_or (thn (ha pins s σ H _ I h) fun c s1 zq9=>?_)
 obtain⟨H1,I1,q1⟩:=zq9
 cases c with
 |true=>exact⟨H1,I1,q1⟩
 |false=>exact hb wh pins s1 σ H1 Q I1 q1
theorem Zup(ha:PT X a tA):PT X (.UnaryOp .Not a pos) (tNot tA):=by
 intro pins s σ H Q I h
 exact isTrue_not (ha pins s σ H (fun c H1=>Q (!c) H1) I h)
noncomputable def Zuq(ta tb:TE):TE:=fun σ H Q=>ta σ H fun x H1=>∃c,x= .bl c∧if c=true then tb σ H1 Q else Q (.bl false) H1
noncomputable def tOrV(ta tb:TE):TE:=fun σ H Q=>ta σ H fun x H1=>∃c,x= .bl c∧if c=true then Q (.bl true) H1 else tb σ H1 Q
noncomputable def Zur(ta:TE):TE:=fun σ H Q=>ta σ H fun x H1=>∃c,x= .bl c∧Q (.bl (!c)) H1
theorem Zus{op} {t:TE} (h:PE X a t):PE X (.BoolOp op [a] pos) t:=fun pins s σ H Q I hw=>BoolOp_one (h pins s σ H Q I hw)
theorem Zut(ha:PE X a ta)(hb:PE X (.BoolOp .And (b::rest) pos) tb):PE X (.BoolOp .And (a::b::rest) pos) (Zuq ta tb):=by
 intro pins s σ H Q I h
 refine BoolOp_and (thn (ha pins s σ H _ I h) fun v s1 zq9=>?_)
 obtain⟨x,H1,I1,r1,q1⟩:=zq9
 obtain⟨c,rfl,q1⟩:=q1
 cases r1
 refine wpAny_truthy_bool ?_
 cases c with
 |true=>exact hb pins s1 σ H1 Q I1 q1
 |false=>exact⟨.bl false,H1,I1,rfl,q1⟩
theorem Zuu(ha:PE X a ta):PE X (.UnaryOp .Not a pos) (Zur ta):=by
 intro pins s σ H Q I h
 refine UnaryOp_ (thn (ha pins s σ H _ I h) fun v s1 zq9=>?_)
 obtain⟨x,H1,I1,r1,q1⟩:=zq9
 obtain⟨c,rfl,q1⟩:=q1
 cases r1
 exact not_of (wpAny_truthy_bool ⟨.bl (!c),H1,I1,rfl,q1⟩)
noncomputable def tIf(t:TT)(ta tb:TE):TE:=fun σ H Q=>t σ H fun c H1=>if c=true then ta σ H1 Q else tb σ H1 Q
end
end L2
namespace L2
open PySem PySem.Spec PyProof.Rows
noncomputable def SqL(K:PySem.W.Frag)(H:Hp)(a:Addr)(xs:List V):Prop:=
 Rd H a (.lst xs)∨
  ∃(o:Obj) (its:Array Value) (n:Nat),K.lookup a=some o∧o.cls= .type "list"∧o.dict=none∧o.data= .seq its n∧its.size≤sizeLine∧Vals xs its.toList
noncomputable def SqT(K:PySem.W.Frag)(H:Hp)(a:Addr)(xs:List V):Prop:=
 Rd H a (.tup xs)∨
  ∃(o:Obj) (its:Array Value) (n:Nat),K.lookup a=some o∧o.cls= .type "tuple"∧o.data= .seq its n∧its.size≤sizeLine∧Vals xs its.toList
noncomputable def absV:Value→Option V
 | .none=>some .non
 | .bool b=>some (.bl b)
 | .int i _=>some (.int i)
 | .str x _=>some (.str x)
 | .bytes b _=>some (.byt b)
 | .float b _=>some (.flt b)
 | .ref a=>some (.ref a)
 | .type n=>some (.ty n)
 |_=>none
theorem RelV.abs{x:V}{u:Value}(r:RelV x u):absV u=some x:=by
 cases x with
 |non=>cases r;rfl
 |bl _=>cases r;rfl
 |int _=>obtain⟨t,rfl⟩:=r;rfl
 |str _=>obtain⟨t,rfl⟩:=r;rfl
 |byt _=>obtain⟨t,rfl⟩:=r;rfl
 |flt _=>obtain⟨t,rfl⟩:=r;rfl
 |ref _=>cases r;rfl
 |ty _=>cases r;rfl
theorem RelV.inj{x y:V}{u:Value}(r:RelV x u)(q:RelV y u):x=y:=Option.some.inj (r.abs.symm.trans q.abs)
theorem Vals.inj{xs:List V}:∀{ys:List V} {us:List Value},Vals xs us→Vals ys us→xs=ys:=by
 induction xs with
 |nil=>intro ys us h g;cases h;cases g;rfl
 |cons x xs ih=>
  intro ys us h g
  cases h with
  |cons r t=>
   cases g with
   |cons r' t'=>rw[r.inj r',ih t t']
section
variable{X:Cx}{pins:List (Addr×Obj)}{σ:St}{H:Hp}{s:Shared}{a:Addr}{xs ys:List V}
theorem Inv.list(I:Inv X pins σ H s)(h:SqL X.K H a xs):∃its:List Value,Vals xs its∧PlainL s.heap a its.toArray∧xs.length≤sizeLine:=by
 rcases h with h|⟨o,its,n,hk,hc,hd,hs,hz,r⟩
 ·obtain⟨z,its,n,r,e⟩:=h.ok I.hok
  exact⟨its,r,⟨_,n,e,rfl,rfl,rfl⟩,z⟩
 ·refine⟨its.toList,r,⟨o,n,I.kIn a o hk,hc,hd,by simpa using hs⟩,?_⟩
  have e:=r.length
  simp only[Array.length_toList]at e
  omega
theorem Inv.tuple(I:Inv X pins σ H s)(h:SqT X.K H a xs):∃its:List Value,Vals xs its∧IsTup s.heap a its.toArray∧xs.length≤sizeLine:=by
 rcases h with h|⟨o,its,n,hk,hc,hs,hz,r⟩
 ·obtain⟨z,its,r,p⟩:=h.ok I.hok
  exact⟨its,r,p,z⟩
 ·refine⟨its.toList,r,⟨o,I.kIn a o hk,hc,n,by simpa using hs⟩,?_⟩
  have e:=r.length
  simp only[Array.length_toList]at e
  omega
theorem Inv.list_inj(I:Inv X pins σ H s)(h:SqL X.K H a xs)(h':SqL X.K H a ys):xs=ys:=by
 obtain⟨its,r,⟨o,n,e,_,_,d⟩,_⟩:=I.list h
 obtain⟨its',r',⟨o',n',e',_,_,d'⟩,_⟩:=I.list h'
 rw[e]at e';cases e'
 rw[d]at d'
 injection d' with d1 _
 have:its=its':=by simpa using congrArg Array.toList d1
 subst this
 exact r.inj r'
theorem Inv.tuple_inj(I:Inv X pins σ H s)(h:SqT X.K H a xs)(h':SqT X.K H a ys):xs=ys:=by
 obtain⟨its,r,⟨o,e,_,n,d⟩,_⟩:=I.tuple h
 obtain⟨its',r',⟨o',e',_,n',d'⟩,_⟩:=I.tuple h'
 rw[e]at e';cases e'
 rw[d]at d'
 injection d' with d1 _
 have:its=its':=by simpa using congrArg Array.toList d1
 subst this
 exact r.inj r'
end
noncomputable abbrev Cx.wish(X:Cx)(E:Value→Shared→Prop):Cx:={X with xe:=E}
noncomputable abbrev Cx.nox(X:Cx):Cx:=X.wish fun _ _=>False
theorem Cx.Ok.wish{X:Cx}(ok:X.Ok)(E:Value→Shared→Prop):(X.wish E).Ok:=
 ⟨ok.mod,ok.kind,ok.glob,ok.blt,ok.above,ok.inj,ok.has,ok.cab,ok.hd,ok.frames,ok.stk,ok.exf,ok.bs,ok.bsz,ok.noex,ok.exfs,ok.funs,ok.frf⟩
theorem Cx.Ok.unwish{X:Cx}{E:Value→Shared→Prop}(ok:(X.wish E).Ok):X.Ok:=
 ⟨ok.mod,ok.kind,ok.glob,ok.blt,ok.above,ok.inj,ok.has,ok.cab,ok.hd,ok.frames,ok.stk,ok.exf,ok.bs,ok.bsz,ok.noex,ok.exfs,ok.funs,ok.frf⟩
section
variable{X:Cx}{pins:List (Addr×Obj)}{σ:St}{H:Hp}{s:Shared}{E:Value→Shared→Prop}
theorem Inv.wish(I:Inv X pins σ H s)(E:Value→Shared→Prop):Inv (X.wish E) pins σ H s:=⟨I.ok.wish E,I.os,I.bare,I.base,I.loc,I.cell,I.free,I.freeC,I.pin,I.hok,I.len⟩
theorem Inv.unwish(I:Inv (X.wish E) pins σ H s):Inv X pins σ H s:=⟨I.ok.unwish,I.os,I.bare,I.base,I.loc,I.cell,I.free,I.freeC,I.pin,I.hok,I.len⟩
theorem SP.unwish{D:Ends}{f:Flow}{s':Shared}(h:SP (X.wish E) pins D f s'):SP X pins D f s':=by
 cases f with
 |next=>obtain⟨σ',H',I,q⟩:=h;exact⟨σ',H',I.unwish,q⟩
 |brk=>obtain⟨σ',H',I,q⟩:=h;exact⟨σ',H',I.unwish,q⟩
 |cont=>obtain⟨σ',H',I,q⟩:=h;exact⟨σ',H',I.unwish,q⟩
 |ret u=>obtain⟨v,σ',H',I,r,q⟩:=h;exact⟨v,σ',H',I.unwish,r,q⟩
theorem PSs.nox{st:List Stmt}{t:TS}(h:PSs X.nox st t):PSs X st t:=fun pins s σ H D I hw=>
 wpAny_mono (h pins s σ H D (I.wish _) hw) (fun _ _ q=>q.unwish) fun _ _ z=>False.elim z
end
section
variable{X:Cx}{st:Stmt}{rest:List Stmt}{t u:TS}{e:Expr}{te:TE}{pos:Pos}
noncomputable def Zuv:TS:=fun D σ H=>D.nx σ H
noncomputable def tSeq(t u:TS):TS:=fun D σ H=>t {D with nx:=u D} σ H
theorem Zru:PSs X [] Zuv:=fun _ _ σ H _ I h=>wpAny_execs_nil ⟨σ,H,I,h⟩
theorem Zos(h1:PS X st t)(h2:PSs X rest u):PSs X (st::rest) (tSeq t u):=by
 intro pins s σ H D I h
 refine wpAny_execs_cons (thn (h1 pins s σ H {D with nx:=u D} I h) fun f s1 q=>?_)
 cases f with
 |next=>
  obtain⟨σ',H',I',q⟩:=q
  exact h2 pins s1 σ' H' D I' q
 |ret v=>exact q
 |brk=>exact q
 |cont=>exact q
theorem Zrv(h1:PS X st t):PSs X [st] t:=by
 intro pins s σ H D I h
 refine wpAny_execs_cons (thn (h1 pins s σ H D I h) fun f s1 q=>?_)
 cases f with
 |next=>exact wpAny_execs_nil q
 |ret v=>exact q
 |brk=>exact q
 |cont=>exact q
noncomputable def Z11:TS:=fun D σ H=>D.bk σ H
noncomputable def Z3a:TS:=fun D σ H=>D.ct σ H
theorem Inv.quiet{pins:List (Addr×Obj)}{σ:St}{H:Hp}{s:Shared}(I:Inv X pins σ H s):interactive X.env=false:=by simp[interactive,I.ok.kind]
noncomputable def Zg7(te:TE):TS:=fun D σ H=>te σ H fun _ H1=>D.nx σ H1
theorem Zed(he:PE X e te)(hs:swapsWith e none pos.line X.env=pure false:=by rfl):PS X (.Expr e pos) (Zg7 te):=by
 intro pins s σ H D I h
 exact wpAny_Expr_any (thn (he pins s σ H _ I h) fun v s1 ⟨x,H1,I1,r1,q1⟩=>⟨σ,H1,I1,q1⟩) I.quiet hs
noncomputable def tRet(te:TE):TS:=fun D σ H=>te σ H D.rt
theorem Zqd(he:PE X e te):PS X (.Return (some e) pos) (tRet te):=by
 intro pins s σ H D I h
 exact wpAny_Return_some (thn (he pins s σ H _ I h) fun v s1 ⟨x,H1,I1,r1,q1⟩=>⟨x,σ,H1,I1,r1,q1⟩)
noncomputable def Z3b:TS:=fun D _ H=>D.rt .non H
noncomputable def tIfS(c:TT)(t u:TS):TS:=fun D σ H=>c σ H fun b H1=>if b=true then t D σ H1 else u D σ H1
theorem Zy6{c:Expr}{a b:List Stmt}{tc:TT}(hc:PT X c tc)(ha:PSs X a t)(hb:PSs X b u):PS X (.If c a b pos) (tIfS tc t u):=by
 intro pins s σ H D I h
 refine wpAny_If (thn (hc pins s σ H _ I h) fun d s1 zq9=>?_)
 obtain⟨H1,I1,q1⟩:=zq9
 cases d with
 |true=>exact ha pins s1 σ H1 D I1 q1
 |false=>exact hb pins s1 σ H1 D I1 q1
noncomputable def Z12:TS:=fun _ _ _=>False
end
noncomputable abbrev TG:=V→St→Hp→(St→Hp→Prop)→Prop
noncomputable abbrev TGs:=List V→St→Hp→(St→Hp→Prop)→Prop
noncomputable def PG(X:Cx)(target:Expr)(t:TG):Prop:=
 ∀(pins:List (Addr×Obj)) (s:Shared) (σ:St) (H:Hp) (v:V) (u:Value) (Q:St→Hp→Prop),Inv X pins σ H s→RelV v u→t v σ H Q→
  wpAny (model X.prog X.w) X.A (assign target X.env u) (fun _ s'=>∃σ' H',Inv X pins σ' H' s'∧Q σ' H') X.xe s
noncomputable def PGs(X:Cx)(ts:List Expr)(t:TGs):Prop:=
 ∀(pins:List (Addr×Obj)) (s:Shared) (σ:St) (H:Hp) (vs:List V) (us:List Value) (Q:St→Hp→Prop),Inv X pins σ H s→Vals vs us→t vs σ H Q→
  wpAny (model X.prog X.w) X.A (assignInOrder ((assignEach ts X.env).map (·.2)) us) (fun _ s'=>∃σ' H',Inv X pins σ' H' s'∧Q σ' H') X.xe s
noncomputable abbrev TSet:=V→V→V→Hp→(Hp→Prop)→Prop
noncomputable def PSet(X:Cx)(t:TSet):Prop:=
 ∀(pins:List (Addr×Obj)) (s:Shared) (σ:St) (H:Hp) (o i v:V) (ov iv u:Value) (Q:Hp→Prop),Inv X pins σ H s→RelV o ov→RelV i iv→RelV v u→t o i v H Q→
  wpAny (model X.prog X.w) X.A (setItem ov iv u) (fun _ s'=>∃H',Inv X pins σ H' s'∧Q H') X.xe s
noncomputable abbrev TIp:=V→V→Hp→VK→Prop
noncomputable def PIp(X:Cx)(op:Operator)(t:TIp):Prop:=
 ∀(pins:List (Addr×Obj)) (s:Shared) (σ:St) (H:Hp) (x y:V) (v u:Value) (Q:VK),Inv X pins σ H s→RelV x v→RelV y u→t x y H Q→
  wpAny (model X.prog X.w) X.A (inplaceOp op v u) (EP X pins σ Q) X.xe s
section
variable{X:Cx}{pos:Pos}
noncomputable def Zkv(i:Nat):TG:=fun v σ H Q=>Q (σ.set i (some v)) H
theorem Zrw{i:Nat}{x:Str}(hN:X.N.Nodup)(hi:X.N[i]? =some x)(hx:Loc X.env.scope x)(hf:X.fn x=true∨X.env.scope.names.lookup x=some .local:=by first|exact .inl rfl|exact .inr rfl|assumption):PG X (.Name x pos) (Zkv i):=by
 intro pins s σ H v u Q I r h
 exact wpAny_assign_Name (Ze5 I hN hi hx r (fun s' I'=>⟨_,H,I',h⟩) hf)
noncomputable def gNil:TGs:=fun vs σ H Q=>vs=[]∧Q σ H
noncomputable def Z3c(t:TG)(u:TGs):TGs:=fun vs σ H Q=>∃v r,vs=v::r∧t v σ H fun σ' H'=>u r σ' H' Q
noncomputable def gTup(K:PySem.W.Frag)(n:Nat)(t:TGs):TG:=fun v σ H Q=>∃a xs,v= .ref a∧SqT K H a xs∧xs.length=n∧t xs σ H Q
noncomputable def gSub(to ti:TE)(t:TSet):TG:=fun v σ H Q=>to σ H fun o H1=>ti σ H1 fun i H2=>t o i v H2 fun H3=>Q σ H3
noncomputable def tAsg(te:TE)(g:TG):TS:=fun D σ H=>te σ H fun x H1=>g x σ H1 D.nx
theorem Zlu{i:Nat}{x:Str}{e:Expr}{te:TE}{pos':Pos}(hN:X.N.Nodup)(hi:X.N[i]? =some x)(hx:Loc X.env.scope x)(he:PE X e te)(hs:swapsWith e (some (.Name x pos')) pos.line X.env=pure false:=by rfl)(hf:X.fn x=true∨X.env.scope.names.lookup x=some .local:=by first|exact .inl rfl|exact .inr rfl|assumption):
  PS X (.Assign [.Name x pos'] e pos) (tAsg te (Zkv i)):=by
 intro pins s σ H D I h
 refine wpAny_Assign_Name (thn (he pins s σ H _ I h) fun v s1 ⟨y,H1,I1,r1,q1⟩=>?_) hs
 exact Ze5 I1 hN hi hx r1 (fun s2 I2=>⟨_,H1,I2,q1⟩) hf
noncomputable def tPar(i j:Nat)(ta:TA):TS:=fun D σ H=>ta σ H fun vs H1=>∃v w,vs=[v,w]∧D.nx ((σ.set i (some v)).set j (some w)) H1
noncomputable def tAug(i:Nat)(te:TE)(ti:TIp):TS:=fun D σ H=>∃x,σ[i]? =some (some x)∧te σ H fun y H1=>ti x y H1 fun z H2=>D.nx (σ.set i (some z)) H2
theorem Zuw{i:Nat}{x:Str}{e:Expr}{te:TE}{op:Operator}{ti:TIp}{pos':Pos}(hN:X.N.Nodup)(hi:X.N[i]? =some x)(hx:Loc X.env.scope x)(he:PE X e te)(ho:PIp X op ti)(hf:X.fn x=true∨X.env.scope.names.lookup x=some .local:=by first|exact .inl rfl|exact .inr rfl|assumption):
  PS X (.AugAssign (.Name x pos') op e pos) (tAug i te ti):=by
 intro pins s σ H D I h
 obtain⟨v,e1,h⟩:=h
 obtain⟨m,hn,hl⟩:=I.loc
 have vis:Vis X.env.scope x:=by rcases hx with k|k;exact .inl k;exact .inr (.inl k)
 obtain⟨u,r,l⟩:=hl i x v hi e1 vis
 refine wpAny_AugAssign_Name ?_
 have go:wpAny (model X.prog X.w) X.A (eval e X.env) (fun w s₂=>wpAny (model X.prog X.w) X.A (inplaceOp op u w) (fun r s₃=>wpAny (model X.prog X.w) X.A (storeName X.env x r) (fun _=>SP X pins D .next) X.xe s₃) X.xe s₂) X.xe s:=by
  refine thn (he pins s σ H _ I h) fun w s1 zq9=>?_
  obtain⟨y,H1,I1,r1,q1⟩:=zq9
  refine thn (ho pins s1 σ H1 v y u w _ I1 r r1 q1) fun z s2 zq9=>?_
  obtain⟨zv,H2,I2,r2,q2⟩:=zq9
  exact Ze5 I2 hN hi hx r2 (fun s3 I3=>⟨_,H2,I3,q2⟩) hf
 rcases l with⟨hk,hm⟩|⟨hk,c,hc,hcell⟩
 ·exact wpAny_loadName_local I.ok.kind hk hn hm go
 ·rcases hk with hk|hk
  ·exact wpAny_loadName_cell I.ok.kind hk hc hcell go
  ·rcases hx with k|k
   ·have:X.env.scope.names.lookup x=some .free:=hk
    rw[k]at this;cases this
   ·have:X.env.scope.names.lookup x=some .free:=hk
    rw[k]at this;cases this
noncomputable def Z3d(to ti te:TE)(tget:V→V→Hp→VK→Prop)(tip:TIp)(tset:TSet):TS:=fun D σ H=>to σ H fun o H1=>ti σ H1 fun i H2=>tget o i H2 fun x H3=>te σ H3 fun y H4=>tip x y H4 fun z H5=>tset o i z H5 fun H6=>D.nx σ H6
noncomputable def PGet(X:Cx)(t:V→V→Hp→VK→Prop):Prop:=
 ∀(pins:List (Addr×Obj)) (s:Shared) (σ:St) (H:Hp) (o i:V) (ov iv:Value) (Q:VK),Inv X pins σ H s→RelV o ov→RelV i iv→t o i H Q→
  wpAny (model X.prog X.w) X.A (getItem ov iv) (EP X pins σ Q) X.xe s
noncomputable def ipI(f:Int→Int→Int):TIp:=fun x y H Q=>∃i j,x= .int i∧y= .int j∧Q (.int (f i j)) H
theorem Zux:PIp X .Add (ipI fun i j=>i+j):=by
 intro pins s σ H x y v u Q I r1 r2 h
 obtain⟨i,j,e1,e2,q⟩:=h
 subst e1;subst e2
 obtain⟨t,rfl⟩:=r1
 obtain⟨t',rfl⟩:=r2
 exact iadd_int ⟨.int _,H,I.tok _,⟨_,rfl⟩,q⟩
end
section
variable{X:Cx}{pos:Pos}
noncomputable def Zqe(c:TT)(tb:TS):TS:=fun D σ H=>∃W:Nat→St→Hp→Prop,(∃m,W m σ H)∧∀m σ H,W m σ H→
 c σ H fun b H1=>if b=true then∃N:St→Hp→Prop,(∀σ' H',N σ' H'→∃m',m'<m∧W m' σ' H')∧tb {D with nx:=N,ct:=N,bk:=D.nx} σ H1 else D.nx σ H1
theorem Zot{c:Expr}{body:List Stmt}{tc:TT}{tb:TS}(hp:PassesOwn (model X.prog X.w) X.A X.env X.xe)(hc:PT X c tc)(hb:PSs X body tb):PS X (.While c body [] pos) (Zqe tc tb):=by
 intro pins s σ H D I h
 obtain⟨W,⟨m0,w0⟩,turn⟩:=h
 refine wpAny_While (codeAny_whileLoop (fun n s'=>∃σ' H',Inv X pins σ' H' s'∧W n σ' H') ?_ m0 ⟨σ,H,I,w0⟩)
 rintro n s1 ⟨σ1,H1,I1,w1⟩
 refine wpAny_passesOwn hp (thn (hc pins s1 σ1 H1 _ I1 (turn n σ1 H1 w1)) fun b s2 zq9=>?_)
 obtain⟨H2,I2,q2⟩:=zq9
 cases b with
 |true=>
  obtain⟨N,hN,q2⟩:=q2
  rw[if_pos rfl]
  refine wpAny_passesOwn hp (thn (hb pins s2 σ1 H2 _ I2 q2) fun f s3 q3=>?_)
  cases f with
  |next=>
   obtain⟨σ3,H3,I3,n3⟩:=q3
   obtain⟨m',hm,w3⟩:=hN σ3 H3 n3
   exact⟨m',hm,σ3,H3,I3,w3⟩
  |cont=>
   obtain⟨σ3,H3,I3,n3⟩:=q3
   obtain⟨m',hm,w3⟩:=hN σ3 H3 n3
   exact⟨m',hm,σ3,H3,I3,w3⟩
  |brk=>exact q3
  |ret v=>exact q3
 |false=>
  rw[if_neg Bool.false_ne_true]
  exact wpAny_execs_nil ⟨σ1,H2,I2,q2⟩
end
set_option genInjectivity false in
structure It where
 go:Nat→Hp→Prop
 yld:Nat→Hp→V→Hp→Prop
 stop:Nat→Hp→Prop
noncomputable def FpOk(X:Cx)(pins:List (Addr×Obj))(H:Hp)(b:Addr):Prop:=
 H b=none∧b≠X.env.locals∧b∉X.fs∧(b∈X.ex∨X.s₀.heap.objs.size≤b)∧(∀x c,X.env.cells.lookup x=some c→c≠b)∧∀p∈X.pn++pins,p.1≠b
theorem Inv.fpOk{X:Cx}{pins:List (Addr×Obj)}{σ:St}{H H':Hp}{s:Shared}{b:Addr}(I:Inv X pins σ H s)(hb:s.heap.objs.size≤b)(hn:H' b=none):FpOk X pins H' b:=by
 refine⟨hn,Nat.ne_of_gt (Nat.lt_of_lt_of_le I.lt hb),I.nofs hb,.inr (Nat.le_trans I.sz hb),fun x c e z=>?_,fun p hp z=>?_⟩
 ·obtain⟨v,q⟩:=I.cell x c e
  exact absurd (Nat.lt_of_lt_of_le q.lt (by rw[z];exact hb)) (Nat.lt_irrefl _)
 ·exact absurd (Nat.lt_of_lt_of_le (Heap.lt_size (I.pin p hp).1) (by rw[z];exact hb)) (Nat.lt_irrefl _)
structure Turn(P:Program)(w:World)(K:PySem.W.Frag)(tg:Expr)(J:It)(fp:List Addr)(it:Addr)(tn:Nat→Heap→Prop):Prop where
 mem:it∈fp
 obj:∀i h,tn i h→∀b∈fp,∃o,h.get? b=some o∧∀v,o.data≠.cell v
 keep:∀i h h',tn i h→(∀b∈fp,∀o,h.get? b=some o→h'.get? b=some o)→tn i h'
 item:∀(X:Cx),X.prog=P→X.w=w→X.K=K→X.calm=true→∀(i:Nat) (pins:List (Addr×Obj)) (s:Shared) (σ:St) (H:Hp) (E:Value→Shared→Prop),Inv X pins σ H s→(∀b∈fp,FpOk X pins H b)→tn i s.heap→J.go i H→
  wpAny (model P w) X.A (pyNext (.ref it)) (fun r s1=>∃u,r=some u∧
   wpAny (model P w) X.A (letOwnedTupleGo tg (.ref it) u) (fun _ s2=>∃x H',Inv X pins σ H' s2∧RelV x u∧J.yld i H x H'∧tn (i+1) s2.heap∧∀b∈fp,H' b=none) E s1) E s
 done:∀(X:Cx),X.prog=P→X.w=w→X.K=K→X.calm=true→∀(i:Nat) (pins:List (Addr×Obj)) (s:Shared) (σ:St) (H:Hp) (E:Value→Shared→Prop),Inv X pins σ H s→(∀b∈fp,FpOk X pins H b)→tn i s.heap→J.stop i H→
  wpAny (model P w) X.A (pyNext (.ref it)) (fun r s1=>r=none∧Inv X pins σ H s1) E s
 self:∀(A:Around) (i:Nat) (s:Shared) (Q:Value→Shared→Prop) (E:Value→Shared→Prop),tn i s.heap→Q (.ref it) s→wpAny (model P w) A (pyIter (.ref it)) Q E s
noncomputable abbrev TI:=St→Hp→(It→Hp→Prop)→Prop
noncomputable def PIE(X:Cx)(pins:List (Addr×Obj))(σ:St)(tg:Expr)(R:It→Hp→Prop)(itv:Value)(s2:Shared):Prop:=
 ∃(it:Addr) (fp:List Addr) (tn:Nat→Heap→Prop) (J:It) (H':Hp),itv= .ref it∧Inv X pins σ H' s2∧Turn X.prog X.w X.K tg J fp it tn∧tn 0 s2.heap∧(∀b∈fp,FpOk X pins H' b)∧R J H'
noncomputable def PI(X:Cx)(tg iter:Expr)(wi:TI):Prop:=
 ∀(pins:List (Addr×Obj)) (s:Shared) (σ:St) (H:Hp) (R:It→Hp→Prop),Inv X pins σ H s→wi σ H R→
  wpAny (model X.prog X.w) X.A (eval iter X.env) (fun v s1=>wpAny (model X.prog X.w) X.A (pyIter v) (PIE X pins σ tg R) X.xe s1) X.xe s
theorem Zou{M:Model}{A:Around}{E:Value→Shared→Prop}{s:Shared}{tg:Expr}{it:Addr}{u:Value}{o:Obj}{n:String}{vs:Array Value}{Q:Unit→Shared→Prop}(ho:s.heap.get? it=some o)(hc:o.cls= .type n)(hd:o.data= .fields vs)
    (hn:["enumerate","zip","dict_itemiterator","dict_reverseitemiterator","odict_iterator","itertools.zip_longest","itertools.pairwise"].contains n=false) (hQ:Q () s):wpAny M A (letOwnedTupleGo tg (.ref it) u) Q E s:=by
  unfold letOwnedTupleGo
  cases tg<;> first
    |exact wpAny_pure hQ
    | (cases u<;> first
        |exact wpAny_pure hQ
        | (refine wpAny_bind (wpAny_load ho ?_)
           rw[hc,hd]
           show wpAny M A (if(["enumerate","zip","dict_itemiterator","dict_reverseitemiterator","odict_iterator","itertools.zip_longest","itertools.pairwise"].contains n&&vs[0]? ==some (rawInt _))=true then _ else _) Q E s
           rw[if_neg (by intro h;rw[hn,Bool.false_and]at h;cases h)]
           exact wpAny_pure hQ))
noncomputable def Itl(K:PySem.W.Frag)(a:Addr):It:=
 ⟨fun i H=>∃xs x,SqL K H a xs∧xs[i]? =some x,fun i H x H'=>H'=H∧∀xs,SqL K H a xs→xs[i]? =some x,fun i H=>∃xs,SqL K H a xs∧xs.length≤i⟩
noncomputable def Itt(K:PySem.W.Frag)(a:Addr):It:=
 ⟨fun i H=>∃xs x,SqT K H a xs∧xs[i]? =some x,fun i H x H'=>H'=H∧∀xs,SqT K H a xs→xs[i]? =some x,fun i H=>∃xs,SqT K H a xs∧xs.length≤i⟩
noncomputable def Itr(lo:Int)(n:Nat):It:=⟨fun i _=>i<n,fun i H x H'=>H'=H∧x= .int (lo+i),fun i _=>n≤i⟩
theorem Zlv{P:Program}{w:World}{K:PySem.W.Frag}{tg:Expr}(a it:Addr):Turn P w K tg (Itl K a) [it] it (fun i h=>h.IsListIter it a i)where
 mem:=by simp
 obj:=fun i h st b hb=>by
  have e:b=it:=by simpa using hb
  subst e
  obtain⟨o,e,c,d⟩:=st
  exact⟨o,e,fun v z=>by rw[d]at z;cases z⟩
 keep:=fun i h h' st k=>st.at fun o e=>k it (by simp) o e
 item:=by
  intro X hP hw hK hc i pins s σ H E I hf st hg
  subst hP hw hK
  obtain⟨xs,x,hq,hx⟩:=hg
  obtain⟨its,rv,p,hz⟩:=I.list hq
  obtain⟨u,hu,ru⟩:=rv.get hx
  obtain⟨f0,f1,f2,f3,f4,f5⟩:=hf it (by simp)
  refine wpAny_pyNext_list_item st p.isList (x:=u) (by simpa using hu) fun h' st' sb=>?_
  have I1:Inv X pins σ H {s with heap:=h'}:=I.turned (t':=s.toks) (fun b o hb e=>(sb.2 b hb).trans e) f0 f1 f3 f4 f5
  obtain⟨o,e,c,d⟩:=id st'
  exact⟨u,rfl,Zou (s:={s with heap:=h'}) e c d (by decide) ⟨x,H,I1,ru,⟨rfl,fun ys hy=>by rw[I.list_inj hy hq];exact hx⟩,st',fun b hb=>(hf b hb).1⟩⟩
 done:=by
  intro X hP hw hK hc i pins s σ H E I hf st hg
  subst hP hw hK
  obtain⟨xs,hq,hx⟩:=hg
  obtain⟨its,rv,p,hz⟩:=I.list hq
  obtain⟨f0,f1,f2,f3,f4,f5⟩:=hf it (by simp)
  have hl:=rv.length
  exact wpAny_pyNext_list_end (I.ok.hd hc) st p.isList (by simp;omega) fun h' eb=>⟨rfl,I.turned (t':=s.toks) (fun b o hb e=>eb b o hb e) f0 f1 f3 f4 f5⟩
 self:=fun _ _ _ _ _ st h=>wpAny_pyIter_listiter st h
theorem Zkw{P:Program}{w:World}{K:PySem.W.Frag}{tg:Expr}(a it:Addr):Turn P w K tg (Itt K a) [it] it (fun i h=>h.IsTupleIter it a i)where
 mem:=by simp
 obj:=fun i h st b hb=>by
  have e:b=it:=by simpa using hb
  subst e
  obtain⟨o,e,c,d⟩:=st
  exact⟨o,e,fun v z=>by rw[d]at z;cases z⟩
 keep:=fun i h h' st k=>st.at fun o e=>k it (by simp) o e
 item:=by
  intro X hP hw hK hc i pins s σ H E I hf st hg
  subst hP hw hK
  obtain⟨xs,x,hq,hx⟩:=hg
  obtain⟨its,rv,p,hz⟩:=I.tuple hq
  obtain⟨u,hu,ru⟩:=rv.get hx
  obtain⟨f0,f1,f2,f3,f4,f5⟩:=hf it (by simp)
  refine wpAny_pyNext_tuple_item st (show s.heap.IsTuple a its.toArray from p) (x:=u) (by simpa using hu) fun h' st' sb=>?_
  have I1:Inv X pins σ H {s with heap:=h'}:=I.turned (t':=s.toks) (fun b o hb e=>(sb.2 b hb).trans e) f0 f1 f3 f4 f5
  obtain⟨o,e,c,d⟩:=id st'
  exact⟨u,rfl,Zou (s:={s with heap:=h'}) e c d (by decide) ⟨x,H,I1,ru,⟨rfl,fun ys hy=>by rw[I.tuple_inj hy hq];exact hx⟩,st',fun b hb=>(hf b hb).1⟩⟩
 done:=by
  intro X hP hw hK hc i pins s σ H E I hf st hg
  subst hP hw hK
  obtain⟨xs,hq,hx⟩:=hg
  obtain⟨its,rv,p,hz⟩:=I.tuple hq
  obtain⟨f0,f1,f2,f3,f4,f5⟩:=hf it (by simp)
  have hl:=rv.length
  exact wpAny_pyNext_tuple_end (I.ok.hd hc) st (show s.heap.IsTuple a its.toArray from p) (by simp;omega) fun h' eb=>⟨rfl,I.turned (t':=s.toks) (fun b o hb e=>eb b o hb e) f0 f1 f3 f4 f5⟩
 self:=fun _ _ _ _ _ st h=>wpAny_pyIter_tupleiter st h
theorem Zkx{P:Program}{w:World}{K:PySem.W.Frag}{tg:Expr}(it:Addr)(lo:Int)(n:Nat):Turn P w K tg (Itr lo n) [it] it (fun i h=>IsRangeIter h it (lo+(i:Nat)*1) ((n:Int)- (i:Nat)) 1)where
 mem:=by simp
 obj:=fun i h st b hb=>by
  have e:b=it:=by simpa using hb
  subst e
  exact⟨_,st,fun v z=>by
   have z':Data.fields _=Data.cell v:=z
   cases z'⟩
 keep:=fun i h h' st k=>k it (by simp) _ st
 item:=by
  intro X hP hw hK hc i pins s σ H E I hf st hg
  subst hP hw hK
  obtain⟨f0,f1,f2,f3,f4,f5⟩:=hf it (by simp)
  have W:=Walks.range (prog:=X.prog) (w:=X.w) (I.ok.hd hc) it lo 1 n
  refine W.item i s _ _ hg st fun v h' tk hv st' kk=>?_
  obtain⟨t,rfl⟩:=hv
  have I1:Inv X pins σ H {s with heap:=h',toks:=tk}:=I.turned (fun b o hb e=>kk b o (by simpa using hb) e) f0 f1 f3 f4 f5
  refine⟨_,rfl,Zou (s:={s with heap:=h',toks:=tk}) (n:="range_iterator") st' rfl rfl (by decide) ⟨.int (lo+i),H,I1,⟨t,?_⟩,⟨rfl,rfl⟩,st',fun b hb=>(hf b hb).1⟩⟩
  rw[Int.mul_one]
 done:=by
  intro X hP hw hK hc i pins s σ H E I hf st hg
  subst hP hw hK
  obtain⟨f0,f1,f2,f3,f4,f5⟩:=hf it (by simp)
  exact wpAny_pyNext_range_end (I.ok.hd hc) st (by have:n≤i:=hg;omega) fun h' eb=>⟨rfl,I.turned (t':=s.toks) (fun b o hb e=>eb b o hb e) f0 f1 f3 f4 f5⟩
 self:=fun _ _ _ _ _ st h=>wpAny_pyIter_rangeiter st h
end L2
namespace L2
open PySem PySem.Spec PyProof.Rows
section
variable{X:Cx}{tg:Expr}
noncomputable def Z3e(K:PySem.W.Frag)(tl:TE):TI:=fun σ H R=>tl σ H fun x H1=>∃a,x= .ref a∧(∃xs,SqL K H1 a xs)∧R (Itl K a) H1
noncomputable def iTup(K:PySem.W.Frag)(tl:TE):TI:=fun σ H R=>tl σ H fun x H1=>∃a,x= .ref a∧(∃xs,SqT K H1 a xs)∧R (Itt K a) H1
theorem Zov{pins:List (Addr×Obj)}{σ:St}{H:Hp}{s:Shared}{R:It→Hp→Prop}{E:Value→Shared→Prop}{lo hi:Int}{t u v:Tok}{tk:Nat}(I:Inv X pins σ H s)(h1:-(2^62)≤lo)(h2:lo<2^62)(h3:-(2^62)≤hi)(h4:hi<2^62)
  (q:R (Itr lo (hi- lo).toNat) H):wpAny (model X.prog X.w) X.A (pyIter (.ref s.heap.objs.size)) (PIE X pins σ tg R) E {s with heap:=s.heap.push {cls:=.type "range",data:=.fields #[.int lo t,.int hi u,.int 1 v]},toks:=tk}:=by
 refine wpAny_pyIter_range (IsRange.new ..) (small_one h1 h2 h3 h4) ?_
 have I1:Inv X pins σ H {s with heap:=s.heap.push {cls:=.type "range",data:=.fields #[.int lo t,.int hi u,.int 1 v]},toks:=tk}:=I.kept fun b o e=>Heap.get?_push_of_some _ e
 refine⟨(s.heap.push {cls:=.type "range",data:=.fields #[.int lo t,.int hi u,.int 1 v]}).objs.size,[(s.heap.push {cls:=.type "range",data:=.fields #[.int lo t,.int hi u,.int 1 v]}).objs.size],_,_,H,rfl,
  I1.kept (t':=tk) fun b o e=>Heap.get?_push_of_some _ e,Zkx _ lo (hi- lo).toNat,?_,fun b hb=>?_,q⟩
 ·have e1:lo+((0:Nat):Int)*1=lo:=by simp
  have e2:(((hi- lo).toNat:Nat):Int)- ((0:Nat):Int)=Builtin.Range.rangeSize lo hi 1:=by rw[rangeSize_one];split<;> omega
  show IsRangeIter _ _ (lo+((0:Nat):Int)*1) ((((hi- lo).toNat:Nat):Int)- ((0:Nat):Int)) 1
  rw[e1,e2]
  exact Heap.get?_push_size _ rfl
 ·have e:b=(s.heap.push {cls:=.type "range",data:=.fields #[.int lo t,.int hi u,.int 1 v]}).objs.size:=by simpa using hb
  subst e
  exact I1.fpOk (Nat.le_refl _) (I1.hok.fresh (Nat.le_refl _))
noncomputable def Zuy(ta:TA):TI:=fun σ H R=>ta σ H fun vs H1=>∃j:Int,vs=[.int j]∧-(2^62)≤j∧j<2^62∧R (Itr 0 j.toNat) H1
noncomputable def Z3f(ta:TA):TI:=fun σ H R=>ta σ H fun vs H1=>∃i j:Int,vs=[.int i,.int j]∧(-(2^62)≤i∧i<2^62∧-(2^62)≤j∧j<2^62)∧R (Itr i (j- i).toNat) H1
theorem Zlw{a:Expr}{ta:TA}{p pos:Pos}(hg:Gl X "range")(hm:X.mg "range"=none)(ha:PA X [a] ta)(hs:starEach [a] X.env=[(false,eval a X.env)]:=by rfl):PI X tg (.Call (.Name "range" p) [a] [] pos) (Zuy ta):=by
 intro pins s σ H R I h
 refine Call_ (Zji I hg hm boot_range (PyProof.Rows.callWith_type1 (thn (ha pos pins s σ H _ I h) fun us s1 ⟨vs,H1,I1,r1,q1⟩=>?_) hs rfl))
 obtain⟨j,e,q1,q2,q⟩:=q1
 subst e
 cases r1 with
 |cons r rr=>
  cases rr
  obtain⟨t,rfl⟩:=r
  exact call_range_1 (Zov I1 (by omega) (by omega) q1 q2 (by simpa using q))
noncomputable def tFor(wi:TI)(g:TG)(tb:TS):TS:=fun D σ H=>wi σ H fun J H1=>∃W:Nat→Nat→St→Hp→Prop,(∃m,W 0 m σ H1)∧∀i m σ H,W i m σ H→
 (J.stop i H∧D.nx σ H)∨(J.go i H∧∃N:St→Hp→Prop,(∀σ' H',N σ' H'→∃m',m'<m∧W (i+1) m' σ' H')∧∀x H',J.yld i H x H'→g x σ H' fun σ2 H2=>tb {D with nx:=N,ct:=N,bk:=D.nx} σ2 H2)
noncomputable def Zg8(fp:List Addr)(h:Heap):List (Addr×Obj):=fp.filterMap fun b=>(h.get? b).map fun o=>(b,o)
theorem Zdj{fp:List Addr}{h:Heap}{b:Addr}{o:Obj}(hb:b∈fp)(e:h.get? b=some o):(b,o)∈Zg8 fp h:=List.mem_filterMap.mpr ⟨b,hb,by rw[e];rfl⟩
theorem Zlx{fp:List Addr}{h:Heap}{p:Addr×Obj}(hp:p∈Zg8 fp h):p.1∈fp∧h.get? p.1=some p.2:=by
 obtain⟨b,hb,e⟩:=List.mem_filterMap.mp hp
 cases q:h.get? b with
 |none=>rw[q]at e;cases e
 |some o=>
  rw[q]at e
  have e':(b,o)=p:=Option.some.inj e
  subst e'
  exact⟨hb,q⟩
theorem Inv.pinned{pins:List (Addr×Obj)}{σ:St}{H:Hp}{s:Shared}{fp:List Addr}(I:Inv X pins σ H s)(hf:∀b∈fp,FpOk X pins H b)(ho:∀b∈fp,∃o,s.heap.get? b=some o∧∀v,o.data≠.cell v):Inv X (pins++Zg8 fp s.heap) σ H s:=
 I.pins_of fun p hp=>(List.mem_append.mp hp).elim (fun z=>I.pin p (List.mem_append_right _ z)) fun z=>by
  obtain⟨hb,e⟩:=Zlx z
  obtain⟨f0,f1,f2,_⟩:=hf p.1 hb
  obtain⟨o,e',d⟩:=ho p.1 hb
  rw[e]at e';cases e'
  exact⟨e,f0,f1,f2,d⟩
theorem Inv.unpinned{pins pl:List (Addr×Obj)}{σ:St}{H:Hp}{s:Shared}(I:Inv X (pins++pl) σ H s):Inv X pins σ H s:=I.pins_of fun p hp=>I.pin p (List.mem_append_right _ (List.mem_append_left _ hp))
theorem Zuz {iter : Expr} {body : List Stmt} {wi : TI} {g : TG} {tb : TS} {pos : Pos} (hp : PassesOwn (model X.prog X.w) X.A X.env X.xe) (hc : X.calm = true) (hi : PI X tg iter wi) (hg : PG X tg g) (hb : PSs X body tb)
    (hs : ∀ x, foldedSetIterable iter X.env x = pure x := by intro _; rfl) : PS X (.For tg iter body [] pos) (tFor wi g tb) := by
  intro pins s σ H D I h
  refine wpAny_For (thn (hi pins s σ H _ I h) fun v s1 h1 => thn h1 fun itv s2 h2 => ?_) hs
  obtain ⟨it, fp, tn, J, H2, e, I2, T, st2, f2, W, ⟨m0, w0⟩, turn⟩ := h2
  subst e
  -- what stays true of the iterator's objects through the loop
  have stat : ∀ {H' : Hp}, (∀ b ∈ fp, H' b = none) → ∀ b ∈ fp, FpOk X pins H' b := fun hn b hb => ⟨hn b hb, (f2 b hb).2⟩
  refine codeAny_forLoop_any (fun n s' => ∃ i σ' H', Inv X pins σ' H' s' ∧ tn i s'.heap ∧ (∀ b ∈ fp, H' b = none) ∧ W i n σ' H') ?_ m0 ⟨0, σ, H2, I2, st2, fun b hb => (f2 b hb).1, w0⟩
  rintro n s3 ⟨i, σ3, H3, I3, st3, fr3, w3⟩
  rcases turn i n σ3 H3 w3 with ⟨stop, qn⟩ | ⟨go, N, hN, step⟩
  · refine wpAny_passesOwn hp (thn (T.done X rfl rfl rfl hc i pins s3 σ3 H3 X.xe I3 (stat fr3) st3 stop) fun r s4 ⟨hr, I4⟩ => ?_)
    subst hr
    exact wpAny_execs_nil ⟨σ3, H3, I4, qn⟩
  · refine wpAny_passesOwn hp (thn (T.item X rfl rfl rfl hc i pins s3 σ3 H3 X.xe I3 (stat fr3) st3 go) fun r s4 ⟨u, hr, h4⟩ => ?_)
    subst hr
    refine wpAny_passesOwn hp (thn h4 fun _ s5 zq9 => ?_)
    obtain ⟨x, H5, I5, r5, y5, st5, fr5⟩ := zq9
    have I5' := I5.pinned (stat fr5) (T.obj _ _ st5)
    refine wpAny_passesOwn hp (thn (hg _ s5 σ3 H5 x u _ I5' r5 (step x H5 y5)) fun _ s6 zq9 => ?_)
    obtain ⟨σ6, H6, I6, q6⟩ := zq9
    refine wpAny_passesOwn hp (thn (hb _ s6 σ6 H6 _ I6 q6) fun f s7 q7 => ?_)
    have again : ∀ {σ7 : St} {H7 : Hp}, Inv X (pins ++ Zg8 fp s5.heap) σ7 H7 s7 → N σ7 H7 → ∃ m, m < n ∧ ∃ i σ' H', Inv X pins σ' H' s7 ∧ tn i s7.heap ∧ (∀ b ∈ fp, H' b = none) ∧ W i m σ' H' := fun {σ7 H7} I7 n7 => by
      obtain ⟨m', hm, w7⟩ := hN σ7 H7 n7
      refine ⟨m', hm, i + 1, σ7, H7, I7.unpinned, T.keep _ _ _ st5 fun b hb o e => (I7.pin (b, o) (List.mem_append_right _ (List.mem_append_right _ (Zdj hb e)))).1, fun b hb => ?_, w7⟩
      obtain ⟨o, e, d⟩ := T.obj _ _ st5 b hb
      exact (I7.pin (b, o) (List.mem_append_right _ (List.mem_append_right _ (Zdj hb e)))).2.1
    cases f with
    | next => obtain ⟨σ7, H7, I7, n7⟩ := q7; exact again I7 n7
    | cont => obtain ⟨σ7, H7, I7, n7⟩ := q7; exact again I7 n7
    | brk => obtain ⟨σ7, H7, I7, q7⟩ := q7; exact ⟨σ7, H7, I7.unpinned, q7⟩
    | ret v => obtain ⟨x7, σ7, H7, I7, r7, q7⟩ := q7; exact ⟨x7, σ7, H7, I7.unpinned, r7, q7⟩
end
end L2
namespace L2
open PySem PySem.Spec PyProof.Rows
noncomputable abbrev R2:=V→V→Hp→VK→Prop
noncomputable def OpR(X:Cx)(f:Value→Value→Sem Value)(r:R2):Prop:=
 ∀(pins:List (Addr×Obj)) (s:Shared) (σ:St) (H:Hp) (x y:V) (v u:Value) (Q:VK),Inv X pins σ H s→RelV x v→RelV y u→r x y H Q→
  wpAny (model X.prog X.w) X.A (f v u) (EP X pins σ Q) X.xe s
noncomputable def UnR(X:Cx)(f:Value→Sem Value)(r:V→Hp→VK→Prop):Prop:=
 ∀(pins:List (Addr×Obj)) (s:Shared) (σ:St) (H:Hp) (x:V) (v:Value) (Q:VK),Inv X pins σ H s→RelV x v→r x H Q→
  wpAny (model X.prog X.w) X.A (f v) (EP X pins σ Q) X.xe s
noncomputable def Zcx(X:Cx)(f:Value)(r:List V→Hp→VK→Prop):Prop:=
 ∀(pins:List (Addr×Obj)) (s:Shared) (σ:St) (H:Hp) (xs:List V) (us:List Value) (Q:VK),Inv X pins σ H s→Vals xs us→r xs H Q→
  wpAny (model X.prog X.w) X.A (call f us) (EP X pins σ Q) X.xe s
noncomputable def TruR(X:Cx)(r:V→Hp→(Bool→Hp→Prop)→Prop):Prop:=
 ∀(pins:List (Addr×Obj)) (s:Shared) (σ:St) (H:Hp) (x:V) (v:Value) (Q:Bool→Hp→Prop),Inv X pins σ H s→RelV x v→r x H Q→
  wpAny (model X.prog X.w) X.A (truthy v) (TP X pins σ Q) X.xe s
noncomputable def tOp(r:R2)(ta tb:TE):TE:=fun σ H Q=>ta σ H fun x H1=>tb σ H1 fun y H2=>r x y H2 Q
noncomputable def tUn(r:V→Hp→VK→Prop)(ta:TE):TE:=fun σ H Q=>ta σ H fun x H1=>r x H1 Q
noncomputable def rI(C:Int→Int→Prop)(g:Int→Int→V):R2:=fun x y H Q=>∃i j,x= .int i∧y= .int j∧C i j∧Q (g i j) H
noncomputable def rI0(g:Int→Int→V):R2:=fun x y H Q=>∃i j,x= .int i∧y= .int j∧Q (g i j) H
noncomputable def rU(g:Int→V):V→Hp→VK→Prop:=fun x H Q=>∃i,x= .int i∧Q (g i) H
section
variable{X:Cx}{a b c:Expr}{ta tb tc:TE}{pos:Pos}
theorem binT(ha:PE X a ta)(hb:PE X b tb){pins:List (Addr×Obj)}{s:Shared}{σ:St}{H:Hp}{R:V→V→Hp→Prop}(I:Inv X pins σ H s)
  (h:ta σ H fun x H1=>tb σ H1 fun y H2=>R x y H2) {Q:Value→Shared→Prop} {f:Value→Value→Sem Value}
  (hf:∀v u s2 x y H2,Inv X pins σ H2 s2→RelV x v→RelV y u→R x y H2→wpAny (model X.prog X.w) X.A (f v u) Q X.xe s2):
  wpAny (model X.prog X.w) X.A (eval a X.env) (fun v s₁=>wpAny (model X.prog X.w) X.A (eval b X.env) (fun u s₂=>wpAny (model X.prog X.w) X.A (f v u) Q X.xe s₂) X.xe s₁) X.xe s:=by
 refine thn (ha pins s σ H _ I h) fun v s1 zq9=>?_
 obtain⟨x,H1,I1,r1,q1⟩:=zq9
 refine thn (hb pins s1 σ H1 _ I1 q1) fun u s2 zq9=>?_
 obtain⟨y,H2,I2,r2,q2⟩:=zq9
 exact hf v u s2 x y H2 I2 r1 r2 q2
theorem Zy7{op:Operator}{r:R2}(ho:OpR X (binaryOp op) r)(ha:PE X a ta)(hb:PE X b tb):PE X (.BinOp a op b pos) (tOp r ta tb):=by
 intro pins s σ H Q I h
 exact wpAny_BinOp (binT ha hb I h fun v u s2 x y H2 I2 rx ry q=>ho pins s2 σ H2 x y v u Q I2 rx ry q)
theorem Zu0{op:UnaryOp}{r:V→Hp→VK→Prop}(ho:UnR X (unaryOp op) r)(ha:PE X a ta):PE X (.UnaryOp op a pos) (tUn r ta):=by
 intro pins s σ H Q I h
 exact UnaryOp_ (thn (ha pins s σ H _ I h) fun v s1 ⟨x,H1,I1,r1,q1⟩=>ho pins s1 σ H1 x v Q I1 r1 q1)
theorem opI{f:Value→Value→Sem Value}{C:Int→Int→Prop}{g:Int→Int→Int}
  (rule:∀(i j:Int) (t u:Tok) (s:Shared) (Q:Value→Shared→Prop) (E:Value→Shared→Prop),C i j→Q (.int (g i j) s.toks) {s with toks:=s.toks+1}→wpAny (model X.prog X.w) X.A (f (.int i t) (.int j u)) Q E s):
  OpR X f (rI C fun i j=>.int (g i j)):=by
 intro pins s σ H x y v u Q I rx ry h
 obtain⟨i,j,rfl,rfl,hc,q⟩:=h
 obtain⟨t,rfl⟩:=rx
 obtain⟨t',rfl⟩:=ry
 exact rule i j t t' s _ _ hc ⟨.int (g i j),H,I.tok _,⟨_,rfl⟩,q⟩
theorem opI0{f:Value→Value→Sem Value}{g:Int→Int→Int}
  (rule:∀(i j:Int) (t u:Tok) (s:Shared) (Q:Value→Shared→Prop) (E:Value→Shared→Prop),Q (.int (g i j) s.toks) {s with toks:=s.toks+1}→wpAny (model X.prog X.w) X.A (f (.int i t) (.int j u)) Q E s):
  OpR X f (rI0 fun i j=>.int (g i j)):=by
 intro pins s σ H x y v u Q I rx ry h
 obtain⟨i,j,rfl,rfl,q⟩:=h
 obtain⟨t,rfl⟩:=rx
 obtain⟨t',rfl⟩:=ry
 exact rule i j t t' s _ _ ⟨.int (g i j),H,I.tok _,⟨_,rfl⟩,q⟩
theorem opB0{f:Value→Value→Sem Value}{g:Int→Int→Bool}
  (rule:∀(i j:Int) (t u:Tok) (s:Shared) (Q:Value→Shared→Prop) (E:Value→Shared→Prop),Q (.bool (g i j)) s→wpAny (model X.prog X.w) X.A (f (.int i t) (.int j u)) Q E s):
  OpR X f (rI0 fun i j=>.bl (g i j)):=by
 intro pins s σ H x y v u Q I rx ry h
 obtain⟨i,j,rfl,rfl,q⟩:=h
 obtain⟨t,rfl⟩:=rx
 obtain⟨t',rfl⟩:=ry
 exact rule i j t t' s _ _ ⟨.bl (g i j),H,I,rfl,q⟩
noncomputable def CDiv(i j:Int):Prop:=0<j∧j<1073741824
noncomputable def Z3g(i j:Int):Prop:=j≠0∧j.natAbs<1073741824
noncomputable def CPow(i j:Int):Prop:=0≤j∧j≤1000000∧i.natAbs<2^64
noncomputable def CMul(i j:Int):Prop:=(-(2^64)<i∧i<2^64)∨(-(2^64)<j∧j<2^64)
theorem CMul.ok{i j:Int}(h:CMul i j):IntMulOk i j:=by
 rcases h with⟨h1,h2⟩|⟨h1,h2⟩
 ·exact .of_left (intBits_le_64 h1 h2)
 ·exact .of_right (intBits_le_64 h1 h2)
theorem Zu1:OpR X (binaryOp .Add) (rI0 fun i j=>.int (i+j)):=opI0 fun _ _ _ _ _ _ _ q=>add_int q
theorem Zu2:OpR X (binaryOp .Sub) (rI0 fun i j=>.int (i- j)):=opI0 fun _ _ _ _ _ _ _ q=>sub_int q
theorem Zu3:OpR X (binaryOp .Mult) (rI CMul fun i j=>.int (i*j)):=opI fun _ _ _ _ _ _ _ hc q=>mul_int q hc.ok
theorem Zrx:OpR X (binaryOp .FloorDiv) (rI CDiv fun i j=>.int (i / j)):=opI fun i j _ _ _ _ _ hc q=>by
 have h1:(0:Int)<j:=hc.1
 have h2:j<1073741824:=hc.2
 exact floordiv_int (by omega) (by rw[Int.fdiv_eq_ediv_of_nonneg i (by omega)];exact q) (.inl (PyProof.noPylong_small (by omega)))
theorem Zu4:OpR X (binaryOp .Mod) (rI (fun _ j=>0<j) fun i j=>.int (i % j)):=opI fun i j _ _ _ _ _ hc q=>by
 have h1:(0:Int)<j:=hc
 exact mod_int' (by omega) (by rw[Int.fmod_eq_emod_of_nonneg i (by omega)];exact q)
theorem unI{f:Value→Sem Value}{g:Int→Int}
  (rule:∀(i:Int) (t:Tok) (s:Shared) (Q:Value→Shared→Prop) (E:Value→Shared→Prop),Q (.int (g i) s.toks) {s with toks:=s.toks+1}→wpAny (model X.prog X.w) X.A (f (.int i t)) Q E s):
  UnR X f (rU fun i=>.int (g i)):=by
 intro pins s σ H x v Q I rx h
 obtain⟨i,rfl,q⟩:=h
 obtain⟨t,rfl⟩:=rx
 exact rule i t s _ _ ⟨.int (g i),H,I.tok _,⟨_,rfl⟩,q⟩
theorem Zqf:UnR X (unaryOp .USub) (rU fun i=>.int (-i)):=unI fun _ _ _ _ _ q=>neg_int q
end
noncomputable def scal:V→V→Bool
 | .non,.non=>true| .non,.int _=>true| .int _,.non=>true| .non,.bl _=>true| .bl _,.non=>true| .non,.str _=>true| .str _,.non=>true
 | .int _,.int _=>true| .bl _,.bl _=>true| .str _,.str _=>true| .byt _,.byt _=>true
 | .int _,.str _=>true| .str _,.int _=>true| .bl _,.str _=>true| .str _,.bl _=>true
 |_,_=>false
noncomputable def rEq:R2:=fun x y H Q=>scal x y=true∧Q (.bl (decide (x=y))) H
noncomputable def rNe:R2:=fun x y H Q=>scal x y=true∧Q (.bl (!decide (x=y))) H
theorem Zly{i j:Int}:decide (V.int i=V.int j)=(i==j):=by
 rw[Bool.eq_iff_iff]
 simp
theorem Zqg{i j:Bool}:decide (V.bl i=V.bl j)=(i==j):=by
 rw[Bool.eq_iff_iff]
 simp
theorem Zlz{i j:Str}:decide (V.str i=V.str j)=(i==j):=by
 rw[Bool.eq_iff_iff]
 simp
theorem Zl0{i j:Array UInt8}:decide (V.byt i=V.byt j)=(i.toList==j.toList):=by
 rw[Bool.eq_iff_iff]
 cases i
 cases j
 simp
section
variable{X:Cx}{a b c:Expr}{ta tb tc:TE}{pos:Pos}
theorem Z9{pins:List (Addr×Obj)}{σ:St}{H:Hp}{s:Shared}{Q:VK}{k k':Bool}(I:Inv X pins σ H s)(q:Q (.bl k) H)(e:k=k'):EP X pins σ Q (.bool k') s:=by
 subst e
 exact⟨.bl k,H,I,rfl,q⟩
theorem Zu5:OpR X (compareOp .Eq) rEq:=by
 intro pins s σ H x y v u Q I rx ry h
 obtain⟨hs,q⟩:=h
 cases x with
 |non=>
  cases rx
  cases y with
  |non=>cases ry;exact PySem.EqNone.eq_none_none (Z9 I q (by simp))
  |bl j=>cases ry;exact PySem.EqNone.eq_none_bool (Z9 I q (by simp))
  |int j=>obtain⟨t',rfl⟩:=ry;exact PySem.EqNone.eq_none_int (Z9 I q (by simp))
  |str j=>obtain⟨t',rfl⟩:=ry;exact PySem.EqNone.eq_none_str (Z9 I q (by simp))
  |_=>exact absurd (show false=true from hs) Bool.false_ne_true
 |bl i=>
  cases rx
  cases y with
  |non=>cases ry;exact PySem.EqNone.eq_bool_none (Z9 I q (by simp))
  |bl j=>cases ry;exact eq_bool (Z9 I q Zqg)
  |str j=>obtain⟨t',rfl⟩:=ry;exact PySem.EqMixed.eq_bool_str (Z9 I q (by simp))
  |_=>exact absurd (show false=true from hs) Bool.false_ne_true
 |int i=>
  obtain⟨t,rfl⟩:=rx
  cases y with
  |non=>cases ry;exact PySem.EqNone.eq_int_none (Z9 I q (by simp))
  |int j=>obtain⟨t',rfl⟩:=ry;exact eq_int (Z9 I q Zly)
  |str j=>obtain⟨t',rfl⟩:=ry;exact PySem.EqMixed.eq_int_str (Z9 I q (by simp))
  |_=>exact absurd (show false=true from hs) Bool.false_ne_true
 |str i=>
  obtain⟨t,rfl⟩:=rx
  cases y with
  |non=>cases ry;exact PySem.EqNone.eq_str_none (Z9 I q (by simp))
  |bl j=>cases ry;exact PySem.EqMixed.eq_str_bool (Z9 I q (by simp))
  |int j=>obtain⟨t',rfl⟩:=ry;exact PySem.EqMixed.eq_str_int (Z9 I q (by simp))
  |str j=>obtain⟨t',rfl⟩:=ry;exact eq_str (Z9 I q Zlz)
  |_=>exact absurd (show false=true from hs) Bool.false_ne_true
 |byt i=>
  obtain⟨t,rfl⟩:=rx
  cases y with
  |byt j=>obtain⟨t',rfl⟩:=ry;exact PySem.W.eq_bytes (Z9 I q Zl0)
  |_=>exact absurd (show false=true from hs) Bool.false_ne_true
 |_=>cases y<;> exact absurd (show false=true from hs) Bool.false_ne_true
theorem Zy8:OpR X (compareOp .NotEq) rNe:=by
 intro pins s σ H x y v u Q I rx ry h
 obtain⟨hs,q⟩:=h
 cases x with
 |non=>
  cases rx
  cases y with
  |non=>cases ry;exact PySem.EqNone.ne_none_none (Z9 I q (by simp))
  |bl j=>cases ry;exact PySem.EqNone.ne_none_bool (Z9 I q (by simp))
  |int j=>obtain⟨t',rfl⟩:=ry;exact PySem.EqNone.ne_none_int (Z9 I q (by simp))
  |str j=>obtain⟨t',rfl⟩:=ry;exact PySem.EqNone.ne_none_str (Z9 I q (by simp))
  |_=>exact absurd (show false=true from hs) Bool.false_ne_true
 |bl i=>
  cases rx
  cases y with
  |non=>cases ry;exact PySem.EqNone.ne_bool_none (Z9 I q (by simp))
  |bl j=>cases ry;exact ne_bool (Z9 I q (congrArg not Zqg))
  |str j=>obtain⟨t',rfl⟩:=ry;exact PySem.EqMixed.ne_bool_str (Z9 I q (by simp))
  |_=>exact absurd (show false=true from hs) Bool.false_ne_true
 |int i=>
  obtain⟨t,rfl⟩:=rx
  cases y with
  |non=>cases ry;exact PySem.EqNone.ne_int_none (Z9 I q (by simp))
  |int j=>obtain⟨t',rfl⟩:=ry;exact ne_int (Z9 I q (congrArg not Zly))
  |str j=>obtain⟨t',rfl⟩:=ry;exact PySem.EqMixed.ne_int_str (Z9 I q (by simp))
  |_=>exact absurd (show false=true from hs) Bool.false_ne_true
 |str i=>
  obtain⟨t,rfl⟩:=rx
  cases y with
  |non=>cases ry;exact PySem.EqNone.ne_str_none (Z9 I q (by simp))
  |bl j=>cases ry;exact PySem.EqMixed.ne_str_bool (Z9 I q (by simp))
  |int j=>obtain⟨t',rfl⟩:=ry;exact PySem.EqMixed.ne_str_int (Z9 I q (by simp))
  |str j=>obtain⟨t',rfl⟩:=ry;exact ne_str (Z9 I q (congrArg not Zlz))
  |_=>exact absurd (show false=true from hs) Bool.false_ne_true
 |byt i=>
  obtain⟨t,rfl⟩:=rx
  cases y with
  |byt j=>obtain⟨t',rfl⟩:=ry;exact PySem.W.ne_bytes (Z9 I q (congrArg not Zl0))
  |_=>exact absurd (show false=true from hs) Bool.false_ne_true
 |_=>cases y<;> exact absurd (show false=true from hs) Bool.false_ne_true
theorem Zy9:OpR X (compareOp .Lt) (rI0 fun i j=>.bl (decide (i<j))):=opB0 fun _ _ _ _ _ _ _ q=>lt_int q
theorem Zry:OpR X (compareOp .LtE) (rI0 fun i j=>.bl (decide (i≤j))):=opB0 fun _ _ _ _ _ _ _ q=>le_int q
theorem Zza:OpR X (compareOp .Gt) (rI0 fun i j=>.bl (decide (j<i))):=opB0 fun _ _ _ _ _ _ _ q=>gt_int q
theorem Zg9:OpR X (compareOp .In) (fun x y H Q=>∃i j,x= .str i∧y= .str j∧Q (.bl (!(Builtin.Str.occurrences j i 0 j.length 1).isEmpty)) H):=by
 intro pins s σ H x y v u Q I rx ry h
 obtain⟨i,j,rfl,rfl,q⟩:=h
 obtain⟨t,rfl⟩:=rx
 obtain⟨t',rfl⟩:=ry
 exact in_str (Z9 I q rfl)
noncomputable def Z3h:HO→Bool
 | .lst _=>true
 | .ins _ _ _=>true
 |_=>false
theorem OpR.or{f:Value→Value→Sem Value}{r r':R2}(h:OpR X f r)(h':OpR X f r'):OpR X f (fun x y H Q=>r x y H Q∨r' x y H Q):=by
 intro pins s σ H x y v u Q I rx ry q
 rcases q with q|q
 ·exact h pins s σ H x y v u Q I rx ry q
 ·exact h' pins s σ H x y v u Q I rx ry q
theorem Zf6(b:Expr){op:CmpOp}(h:op≠.In:=by decide)(h2:op≠.NotIn:=by decide):behindInMarks op b=false:=by
 have e1:(op==CmpOp.In)=false:=by cases op<;> first|rfl|exact absurd rfl h
 have e2:(op==CmpOp.NotIn)=false:=by cases op<;> first|rfl|exact absurd rfl h2
 cases b<;> simp[behindInMarks,e1,e2]
theorem Zrz{op:CmpOp}{r:R2}(ho:OpR X (compareOp op) r)(ha:PE X a ta)(hb:PE X b tb)(hm:behindInMarks op b=false):PE X (.Compare a [op] [b] pos) (tOp r ta tb):=by
 intro pins s σ H Q I h
 exact wpAny_Compare1 (binT ha hb I h fun v u s2 x y H2 I2 rx ry q=>ho pins s2 σ H2 x y v u Q I2 rx ry q) hm
noncomputable def Zu6(t:TE):TT:=fun σ H Q=>t σ H fun x H'=>∃k,x= .bl k∧Q k H'
theorem Zr0{op:CmpOp}{r:R2}(ho:OpR X (compareOp op) r)(ha:PE X a ta)(hb:PE X b tb)(hm:behindInMarks op b=false):PT X (.Compare a [op] [b] pos) (Zu6 (tOp r ta tb)):=by
 intro pins s σ H Q I h
 refine wpAny_isTrue_Compare1 (thn (ha pins s σ H _ I h) fun v s1 ⟨x,H1,I1,r1,q1⟩=>thn (hb pins s1 σ H1 _ I1 q1) fun u s2 ⟨y,H2,I2,r2,q2⟩=>
  thn (ho pins s2 σ H2 x y v u _ I2 r1 r2 q2) fun c s3 ⟨z,H3,I3,r3,k,e,q3⟩=>?_) hm
 subst e
 cases r3
 exact wpAny_truthy_bool ⟨H3,I3,q3⟩
noncomputable def Zqh(r r':R2)(ta tb tc:TE):TE:=fun σ H Q=>ta σ H fun x H1=>tb σ H1 fun y H2=>r x y H2 fun z H3=>∃k,z= .bl k∧
 (if k=true then tc σ H3 fun w' H4=>r' y w' H4 Q else Q (.bl false) H3)
theorem Zow{op op':CmpOp}{r r':R2}(ho:OpR X (compareOp op) r)(ho':OpR X (compareOp op') r')(ha:PE X a ta)(hb:PE X b tb)(hc:PE X c tc)
  (hm:lastMarks [op,op'] [b,c]=false:=by with_unfolding_all rfl):PE X (.Compare a [op,op'] [b,c] pos) (Zqh r r' ta tb tc):=by
 intro pins s σ H Q I h
 refine Compare_chain (thn (ha pins s σ H _ I h) fun v s1 ⟨x,H1,I1,r1,q1⟩=>chain_link (thn (hb pins s1 σ H1 _ I1 q1) fun u s2 ⟨y,H2,I2,r2,q2⟩=>
  thn (ho pins s2 σ H2 x y v u _ I2 r1 r2 q2) fun d s3 ⟨z,H3,I3,r3,k,e,q3⟩=>?_)) hm
 subst e
 cases r3
 refine wpAny_truthy_bool ?_
 cases k with
 |false=>exact ite_ff ⟨.bl false,H3,I3,rfl,q3⟩
 |true=>exact ite_tt (chain_last (thn (hc pins s3 σ H3 _ I3 q3) fun w' s4 ⟨z',H4,I4,r4,q4⟩=>ho' pins s4 σ H4 y z' u w' Q I4 r2 r4 q4))
noncomputable def TruV(K:PySem.W.Frag)(x:V)(H:Hp)(k:Bool):Prop:=
 match x with
 | .non=>k=false
 | .bl b=>k=b
 | .int i=>k=(i !=0)
 | .str y=>y.length≤sizeLine∧k=((y.length:Int) !=0)
 | .byt y=>y.size≤sizeLine∧k=((y.size:Int) !=0)
 | .ref p=>(∃xs,SqL K H p xs∧k= !xs.isEmpty)∨(∃xs,SqT K H p xs∧k= !xs.isEmpty)∨∃kvs,HK H p kvs∧k= !kvs.isEmpty
 |_=>False
theorem Zha:(sizeLine:Nat)<2^63:=by rw[sizeLine_eq];decide
theorem Zky:OpR X (binaryOp .Add) (fun x y H Q=>∃i j,x= .str i∧y= .str j∧i.length+j.length≤sizeLine∧Q (.str (i++j)) H):=by
 intro pins s σ H x y v u Q I rx ry h
 obtain⟨i,j,rfl,rfl,hz,q⟩:=h
 obtain⟨t,rfl⟩:=rx
 obtain⟨t',rfl⟩:=ry
 exact add_str (fun t' tk=>⟨.str (i++j),H,I.tok _,⟨_,rfl⟩,q⟩) hz
noncomputable def Zyr(b:Expr):Prop:=∀o i,subscripted b false o i=operate [o,i] (getItem o i)
theorem Zfw{x:V}{us:List Value}(r:Vals [x] us):∃u,us=[u]∧RelV x u:=by
 cases r with
 |cons r1 r2=>cases r2;exact⟨_,rfl,r1⟩
theorem Zox{x y:V}{us:List Value}(r:Vals [x,y] us):∃u w',us=[u,w']∧RelV x u∧RelV y w':=by
 cases r with
 |cons r1 r2=>
  cases r2 with
  |cons r3 r4=>cases r4;exact⟨_,_,rfl,r1,r3⟩
theorem Zl1(hc:X.calm=true):Zcx X (.builtin "min") (fun xs H Q=>∃i j,xs=[.int i,.int j]∧Q (.int (if j<i then j else i)) H):=by
 intro pins s σ H xs us Q I r h
 obtain⟨i,j,rfl,q⟩:=h
 obtain⟨u,w',rfl,⟨t,rfl⟩,⟨t',rfl⟩⟩:=Zox r
 refine min_two_ints (I.ok.hd hc) fun h' tk k=>⟨_,H,I.kept k,?_,q⟩
 by_cases hj:j<i
 ·rw[if_pos hj,if_pos hj];exact⟨_,rfl⟩
 ·rw[if_neg hj,if_neg hj];exact⟨_,rfl⟩
theorem Zhb:Zcx X (.type "str") (fun xs H Q=>∃i,xs=[.int i]∧i.natAbs.log2<1920∧Q (.str (toString i)) H):=by
 intro pins s σ H xs us Q I r h
 obtain⟨i,rfl,hz,q⟩:=h
 obtain⟨u,rfl,t,rfl⟩:=Zfw r
 exact PySem.P.str_of_int hz ⟨.str _,H,I.tok _,⟨_,rfl⟩,q⟩
noncomputable def LenV(K:PySem.W.Frag)(x:V)(H:Hp)(n:Nat):Prop:=
 match x with
 | .str y=>y.length≤sizeLine∧n=y.length
 | .byt y=>y.size≤sizeLine∧n=y.size
 | .ref p=>(∃xs,SqL K H p xs∧n=xs.length)∨∃xs,SqT K H p xs∧n=xs.length
 |_=>False
end
end L2
namespace L2
open PySem PySem.Spec PyProof.Rows
structure ObjM(h:Heap)(x dx C:Addr)(mA:Str→Option Value):Prop where
 obj:h.get? x=some (PySem.W.instObj C dx)
 ns:h.Ns1 dx mA
 ne:dx≠x
section
variable{prog:Program}{w:World}{A:Around}{E:Value→Shared→Prop}{s:Shared}{K:PySem.W.Frag}{x dx C f:Addr}{mA:Str→Option Value}{name:Str}{v:Value}
end
noncomputable def putF(f:Str)(v:V):List (Str×V)→List (Str×V)
  | []=>[(f,v)]
  | (g,x)::r=>if g=f then(g,v)::r else(g,x)::putF f v r
section
variable{P:Program}{w:World}{H H':Hp}{h h':Heap}{a C dx:Addr}{fs fs':List (Str×V)}
end
structure Cls(K:PySem.W.Frag)(C:Addr):Prop where
 pg:PySem.W.plainGet K C Str.empty=true
 hd:PySem.W.hasDictIn K C=true
 po:PySem.W.plainOver K C=true
 sa:PySem.W.findIn K (.ref C) "__setattr__"=some (some (.builtin "object.__setattr__"))
noncomputable def Zl2(K:PySem.W.Frag)(C:Addr)(f:Str):Prop:=PySem.W.findIn K (.ref C) f=some none
structure Con(K:PySem.W.Frag)(C:Addr)(f:Str)(v:V)(u:Value):Prop where
 at_:PySem.W.findIn K (.ref C) f=some (some u)
 rel:RelV v u
 get:PySem.W.specialIn K u "__get__"=some none
 cp:PySem.W.copiedNames.contains f=false
structure Meth(K:PySem.W.Frag)(C:Addr)(m:Str)(f:Addr):Prop where
 at_:PySem.W.findIn K (.ref C) m=some (some (.ref f))
 fn:PySem.W.isFn K (.ref f)=true
 kp:PySem.W.keepIn K (.ref f)=true
section
variable{X:Cx}{pins:List (Addr×Obj)}{σ:St}{H:Hp}{s:Shared}{a C dx:Addr}{fs:List (Str×V)}{f:Str}{v:V}{A:Around}{E:Value→Shared→Prop}
end
noncomputable def tFld(K:PySem.W.Frag)(ta:TE)(f:Str):TE:=fun σ H Q=>ta σ H fun x H1=>∃a C dx fs v,x= .ref a∧H1 a=some (.ins C dx fs)∧Cls K C∧Zl2 K C f∧fs.lookup f=some v∧Q v H1
noncomputable def tCon(K:PySem.W.Frag)(ta:TE)(f:Str):TE:=fun σ H Q=>ta σ H fun x H1=>∃a C dx fs v u,x= .ref a∧H1 a=some (.ins C dx fs)∧Cls K C∧Con K C f v u∧fs.lookup f=none∧Q v H1
noncomputable def sFld(K:PySem.W.Frag)(ta tv:TE)(f:Str):TS:=fun D σ H=>tv σ H fun y H1=>ta σ H1 fun x H2=>∃a C dx fs,x= .ref a∧H2 a=some (.ins C dx fs)∧Cls K C∧Zl2 K C f∧fs.length<1000∧
 D.nx σ (upd H2 a (.ins C dx (putF f y fs)))
noncomputable def InOp(X:Cx)(op:Operator)(rd:V→V→Hp→VK→Prop):Prop:=
 ∀(pins:List (Addr×Obj)) (s:Shared) (σ:St) (H:Hp) (x y:V) (u v:Value) (Q:VK),Inv X pins σ H s→RelV x u→RelV y v→rd x y H Q→wpAny (model X.prog X.w) X.A (inplaceOp op u v) (EP X pins σ Q) X.xe s
noncomputable def Zzb(K:PySem.W.Frag)(ta tv:TE)(rd:V→V→Hp→VK→Prop)(f:Str):TS:=fun D σ H=>ta σ H fun x H1=>∃a C dx fs v,x= .ref a∧H1 a=some (.ins C dx fs)∧Cls K C∧Zl2 K C f∧fs.lookup f=some v∧
 tv σ H1 fun y H2=>rd v y H2 fun z H3=>∃dx' fs',H3 a=some (.ins C dx' fs')∧fs'.length<1000∧D.nx σ (upd H3 a (.ins C dx' (putF f z fs')))
section
variable{X:Cx}{o e value:Expr}{f:Str}{pos pos' tpos:Pos}{ta tv:TE}
noncomputable def rAdd:V→V→Hp→VK→Prop:=fun x y H Q=>∃i j,x= .int i∧y= .int j∧Q (.int (i+j)) H
noncomputable def rSub:V→V→Hp→VK→Prop:=fun x y H Q=>∃i j,x= .int i∧y= .int j∧Q (.int (i- j)) H
end
section
variable{X:Cx}{pins:List (Addr×Obj)}{σ:St}{H:Hp}{s:Shared}{A:Around}{E:Value→Shared→Prop}{Q:Value→Shared→Prop}{c:Value}{b:Bool}
inductive TyOf(K:PySem.W.Frag)(H:Hp):V→Value→Prop where
 |non:TyOf K H .non (.type "NoneType")
 |bl (x:Bool):TyOf K H (.bl x) (.type "bool")
 |int (i:Int):TyOf K H (.int i) (.type "int")
 |str (x:Str):TyOf K H (.str x) (.type "str")
 |flt (x:UInt64):TyOf K H (.flt x) (.type "float")
 |lst {a:Addr} {xs:List V} (e:H a=some (.lst xs)):TyOf K H (.ref a) (.type "list")
 |frz {a:Addr} {o:Obj} {xs:List V} (e:H a=some (.frz o (.lst xs))):TyOf K H (.ref a) (.type "list")
 |tup {a:Addr} {xs:List V} (e:H a=some (.tup xs)):TyOf K H (.ref a) (.type "tuple")
 |dK {a:Addr} {kvs:List (Key×V)} {ep:Nat} (e:H a=some (.dK kvs ep)):TyOf K H (.ref a) (.type "dict")
 |dT {a:Addr} {kvs:List (List Key×V)} {ep:Nat} {bs:List Addr} (e:H a=some (.dT kvs ep bs)):TyOf K H (.ref a) (.type "dict")
 |ins {a C dx:Addr} {fs:List (Str×V)} (e:H a=some (.ins C dx fs)) (cl:Cls K C) (ha:PySem.W.findIn K (.ref C) "__class__"=some (some (.builtin "object.__class__")))
   (hn:PySem.W.specialIn K (.builtin "object.__class__") "__get__"=some (some (.builtin "getset_descriptor.__get__"))) (htk:PySem.W.takesIn K (.builtin "object.__class__")=some true)
   (hm:PySem.W.mroIn K C (.type "object")=some true):TyOf K H (.ref a) (.ref C)
end
end L2
namespace L2
open PySem PySem.Spec PyProof.Rows
structure Room(k:Nat)(A:Around):Prop where
 hd:A.handled=none
 dp:A.depth+3*k+5<recursionLimit
 un:A.units+16*k+200<cLine
theorem Room.mono{j k:Nat}{A:Around}(r:Room k A)(h:j≤k):Room j A:=⟨r.hd,by have:=r.dp;omega,by have:=r.un;omega⟩
theorem Room.deeper{k:Nat}{A:Around}(r:Room (k+1) A)(env:Env):Room k (A.deeper env):=
 ⟨r.hd,by have:=r.dp;show A.depth+1+3*k+5<_;omega,by have:=r.un;show A.units+3+16*k+200<_;omega⟩
theorem Room.depth{k:Nat}{A:Around}(r:Room k A):A.depth<recursionLimit:=by have:=r.dp;omega
theorem Room.units{k:Nat}{A:Around}(r:Room k A):A.units+64<cLine:=by have:=r.un;omega
noncomputable def tNil:TA:=fun _ H Q=>Q [] H
noncomputable def Zee(ta:TE)(tr:TA):TA:=fun σ H Q=>ta σ H fun x H1=>tr σ H1 fun xs H2=>Q (x::xs) H2
section
variable{X:Cx}{e:Expr}{es:List Expr}{te:TE}{t:TA}{pos:Pos}
theorem Zbb:PA X [] tNil:=fun _ _ _ _ H Q I h=>Calls.spliced_nil ⟨[],H,I,.nil,h⟩
theorem Zac(ha:PE X e te)(hr:PA X es t)(hs:starEach (e::es) X.env=(false,eval e X.env)::starEach es X.env:=by rfl):PA X (e::es) (Zee te t):=by
 intro pos pins s σ H Q I h
 rw[hs]
 show wpAny _ _ (spliced ((false,eval e X.env)::backTo pos (starEach es X.env))) _ _ s
 refine Calls.spliced_cons (thn (ha pins s σ H _ I h) fun u s1 zq9=>?_)
 obtain⟨x,H1,I1,r1,q1⟩:=zq9
 exact thn (hr pos pins s1 σ H1 _ I1 q1) fun us s2 ⟨xs,H2,I2,r2,q2⟩=>⟨x::xs,H2,I2,.cons r1 r2,q2⟩
noncomputable def tTup(t:TA):TE:=fun σ H Q=>t σ H fun xs H1=>xs.length≤sizeLine∧∀p,H1 p=none→Q (.ref p) (upd H1 p (.tup xs))
noncomputable def tLst(t:TA):TE:=fun σ H Q=>t σ H fun xs H1=>xs.length≤sizeLine∧∀p,H1 p=none→Q (.ref p) (upd H1 p (.lst xs))
theorem Zqi{x1} (h:PA X es t):PE X (.Tuple es x1 pos) (tTup t):=by
 intro pins s σ H Q I hq
 refine wpAny_Tuple_spliced (thn (h pos pins s σ H _ I hq) fun us s1 ⟨xs,H1,I1,r,z,q⟩=>⟨by rw[←r.length];exact z,?_⟩)
 have hf:H1 s1.heap.objs.size=none:=I1.hok.fresh (Nat.le_refl _)
 refine⟨.ref s1.heap.objs.size,upd H1 s1.heap.objs.size (.tup xs),I1.laid (t':=s1.toks) (fun b u e=>Heap.get?_push_of_some _ e) (Nat.le_refl _) ?_,rfl,q _ hf⟩
 exact⟨z,us,r,⟨_,Heap.get?_push_size _ rfl,rfl,_,rfl⟩⟩
theorem Zjj(h:PA X es t):PE X (.List es pos) (tLst t):=by
 intro pins s σ H Q I hq
 refine wpAny_List_spliced (thn (h pos pins s σ H _ I hq) fun us s1 ⟨xs,H1,I1,r,z,q⟩=>⟨by rw[←r.length];exact z,?_⟩)
 have hf:H1 s1.heap.objs.size=none:=I1.hok.fresh (Nat.le_refl _)
 refine⟨.ref s1.heap.objs.size,upd H1 s1.heap.objs.size (.lst xs),I1.laid (t':=s1.toks) (fun b u e=>Heap.get?_push_of_some _ e) (Nat.le_refl _) ?_,rfl,q _ hf⟩
 exact⟨z,us,0,r,Heap.get?_push_size _ rfl⟩
end
noncomputable abbrev Sp:=List V→Hp→VK→XK→Prop
noncomputable abbrev CXT:=List Env→Hp→Shared→XK→Value→Shared→Prop
structure Env0(P:Program)(w:World)(K:PySem.W.Frag)(mg:Str→Option Value)(base:Heap)(A:Around)(outer:List Env)(s:Shared)(H:Hp):Prop where
 frames:A.frames=some outer
 mod:Mod K mg base
 bs:∀b o,base.get? b=some o→s.heap.get? b=some o∧H b=none
 bsz:base.objs.size≤s.heap.objs.size
 funs:s.heap.FunFrames base outer
 frf:∀b∈frs outer,H b=none
 hok:HOk P w H s.heap
 bare:AllBare s.gens
noncomputable def CE(outer:List Env)(P:Program)(w:World)(H:Hp)(s:Shared)(Q:VK)(u:Value)(s':Shared):Prop:=
 ∃v H',s'.os=s.os∧AllBare s'.gens∧Un (frs outer) [] H H' s.heap s'.heap∧HOk P w H' s'.heap∧RelV v u∧Q v H'
noncomputable def CR(CX:CXT)(outer:List Env)(P:Program)(w:World)(H:Hp)(s:Shared)(Q:VK)(E:XK)(r:Result)(s':Shared):Prop:=
 match r with
 | .ok (.ret u)=>CE outer P w H s Q u s'
 | .ok _=>False
 | .error e=>CX outer H s E e s'
structure FnOk(P:Program)(w:World)(K:PySem.W.Frag)(mg:Str→Option Value)(base:Heap)(CX:CXT)(k:Nat)(f:Addr)(fd:FuncData)(ps:List Str)(sp:Sp):Prop where
 len:∀vs H Q E,sp vs H Q E→vs.length=ps.length
 run:∀(A:Around) (outer:List Env) (s:Shared) (H:Hp) (args:Args) (us:List Value) (vs:List V) (Q:VK) (E:XK),Room k A→Env0 P w K mg base A outer s H→BindsTo s fd args (ps.zip us)→Vals vs us→sp vs H Q E→
  codeAny (model P w) A (.call (.ref f) args) (CR CX outer P w H s Q E) s
theorem FnOk.mono{P:Program}{w:World}{K:PySem.W.Frag}{mg:Str→Option Value}{base:Heap}{CX:CXT}{j k:Nat}{f:Addr}{fd:FuncData}{ps:List Str}{sp:Sp}(F:FnOk P w K mg base CX j f fd ps sp)(h:j≤k):
  FnOk P w K mg base CX k f fd ps sp:=⟨F.len,fun A outer s H args us vs Q E hr=>F.run A outer s H args us vs Q E (hr.mono h)⟩
theorem FnOk.imp{P:Program}{w:World}{K:PySem.W.Frag}{mg:Str→Option Value}{base:Heap}{CX:CXT}{k:Nat}{f:Addr}{fd:FuncData}{ps:List Str}{sp sp':Sp}(F:FnOk P w K mg base CX k f fd ps sp)
  (h:∀vs H Q E,sp' vs H Q E→sp vs H Q E):FnOk P w K mg base CX k f fd ps sp':=
 ⟨fun vs H Q E q=>F.len vs H Q E (h _ _ _ _ q),fun A outer s H args us vs Q E hr he hb hv hs=>F.run A outer s H args us vs Q E hr he hb hv (h _ _ _ _ hs)⟩
section
variable{X:Cx}{pins:List (Addr×Obj)}{σ:St}{H:Hp}{s s':Shared}
theorem Inv.env0(I:Inv X pins σ H s):Env0 X.prog X.w X.K X.mg X.base X.A X.stack s H:=
 ⟨I.ok.frames,I.ok.mod,I.bs,Nat.le_trans I.ok.bsz I.sz,I.stack,I.stkFree,I.hok,I.bare⟩
theorem Inv.after{Q:VK}{u:Value}(I:Inv X pins σ H s)(h:CE X.stack X.prog X.w H s Q u s'):EP X pins σ Q u s':=by
 obtain⟨v,H',os,bare,un,hok,r,q⟩:=h
 obtain⟨hh,g,d,t,os'⟩:=s'
 obtain rfl:os'=s.os:=os
 exact⟨v,H',I.call (h':=hh) (g':=g) (d':=d) (t':=t) (ch:=[]) un hok bare (fun b z=>absurd z (by simp)),r,q⟩
end
noncomputable def Zu7(sp:Sp)(dvs:List V)(E:XK)(t:TA):TE:=fun σ H Q=>t σ H fun vs H1=>sp (vs++dvs) H1 Q E
noncomputable def Z3i(C:Addr)(m:Str)(sp:Sp)(dvs:List V)(E:XK)(ta:TE)(t:TA):TE:=fun σ H Q=>ta σ H fun x H1=>∃a dx fs,x= .ref a∧H1 a=some (.ins C dx fs)∧fs.lookup m=none∧
 t σ H1 fun vs H2=>sp (x::(vs++dvs)) H2 Q E
noncomputable def Z3j(C:Addr)(sp:Sp)(dvs:List V)(E:XK)(t:TA):TE:=fun σ H Q=>t σ H fun vs H1=>∀x dx,H1 x=none→H1 dx=none→dx≠x→
 sp (.ref x::(vs++dvs)) (upd (upd H1 dx (.own x)) x (.ins C dx [])) (fun v H2=>v= .non∧Q (.ref x) H2) E
noncomputable def Zat(K:PySem.W.Frag)(fd:FuncData)(ps:List Str)(ds:List Value):Prop:=
 ∀(s:Shared) (us:List Value),K.In s.heap→(us++ds).length=ps.length→BindsTo s fd ⟨us,[]⟩ (ps.zip (us++ds))
theorem Zat.all{K:PySem.W.Frag}{fd:FuncData}{ps:List Str}(h:∀us:List Value,us.length=ps.length→bindArgs fd ⟨us,[]⟩=pure (ps.zip us)):Zat K fd ps []:=fun s us _ hl=>by
 rw[List.append_nil]at hl⊢
 exact .of_eq (h us hl)
noncomputable def Zjk(CX:CXT)(X:Cx)(E:XK):Prop:=∀(pins:List (Addr×Obj)) (σ:St) (H:Hp) (s:Shared) (e:Value) (s':Shared),Inv X pins σ H s→CX X.stack H s E e s'→X.xe e s'
section
variable{X:Cx}{CX:CXT}{k:Nat}{f C:Addr}{fd:FuncData}{ps:List Str}{sp:Sp}{dvs:List V}{ds:List Value}{E:XK}{x m:Str}{p pos apos:Pos}{e o:Expr}{es:List Expr}{ta:TE}{t:TA}
theorem Zu8{pins:List (Addr×Obj)}{σ:St}{H:Hp}{s:Shared}{Q:VK}{us:List Value}{vs:List V}(F:FnOk X.prog X.w X.K X.mg X.base CX k f fd ps sp)(hr:Room k X.A)(hb:Zat X.K fd ps ds)(hd:Vals dvs ds)(hx:Zjk CX X E)
  (I:Inv X pins σ H s) (r:Vals vs us) (h:sp (vs++dvs) H Q E):wpAny (model X.prog X.w) X.A (call (.ref f) us) (EP X pins σ Q) X.xe s:=by
 have r2:Vals (vs++dvs) (us++ds):=r.append hd
 have hl:(us++ds).length=ps.length:=by rw[←r2.length];exact F.len _ _ _ _ h
 refine wpAny_call (codeAny_mono (F.run X.A X.stack s H ⟨us,[]⟩ (us++ds) (vs++dvs) Q E hr I.env0 (hb s us I.kIn hl) r2 h) fun r s' hq=>?_)
 cases r with
 |error e=>exact hx pins σ H s e s' I hq
 |ok fl=>
  cases fl with
  |ret u=>exact I.after hq
  |next=>exact False.elim hq
  |brk=>exact False.elim hq
  |cont=>exact False.elim hq
theorem Zl3(F:FnOk X.prog X.w X.K X.mg X.base CX k f fd ps sp)(hr:Room k X.A)(hg:Gl X x)(hm:X.mg x=some (.ref f))(hk:PySem.W.keepIn X.K (.ref f)=true)(hb:Zat X.K fd ps ds)(hd:Vals dvs ds)(hx:Zjk CX X E)
  (ha:PA X (e::es) t) (hdb:(x==("__debug__":Str))=false:=by decide) (he:starEach (e::es) X.env=(false,eval e X.env)::starEach es X.env:=by rfl) (hpl:(backTo pos (starEach es X.env)).any (·.1)=false:=by rfl):
  PE X (.Call (.Name x p) (e::es) [] pos) (Zu7 sp dvs E t):=by
 intro pins s σ H Q I h
 refine wpAny_Call_Name_kw (Zfc I hg hm ?_ hdb)
 refine PySem.W.callWith_K (h₀:=X.base) I.ok.mod.kin hk (thn (ha pos pins s σ H _ I h) fun us s1 ⟨vs,H1,I1,r,q⟩=>⟨I1.kIn,?_⟩) he hpl
 exact Zu8 F hr hb hd hx I1 r q
structure Mk(K:PySem.W.Frag)(C f:Addr):Prop where
 makes:PySem.W.makesIn K C=true
 init:PySem.W.findIn K (.ref C) "__init__"=some (some (.ref f))
 fn:PySem.W.isFn K (.ref f)=true
 kp:PySem.W.keepIn K (.ref C)=true
end
noncomputable def PK(X:Cx)(kws:List Keyword)(t:TA):Prop:=
 ∀(pos:Pos) (pins:List (Addr×Obj)) (s:Shared) (σ:St) (H:Hp) (Q:List V→Hp→Prop),Inv X pins σ H s→t σ H Q→wpAny (model X.prog X.w) X.A (evalAll ((backToKw pos (keywordEach kws X.env)).map (·.2))) (AP X pins σ Q) X.xe s
section
variable{X:Cx}{CX:CXT}{k:Nat}{f C:Addr}{fd:FuncData}{ps ks:List Str}{sp:Sp}{E:XK}{x m:Str}{p pos apos kpos:Pos}{e o:Expr}{es:List Expr}{kws:List Keyword}{te ta:TE}{t tk:TA}{nm:Option Str}
structure KBinds(K:PySem.W.Frag)(fd:FuncData)(ps ks:List Str)(g:List Value→List Value→List Value)(gV:List V→List V→List V):Prop where
 to:∀(s:Shared) (us ws:List Value),K.In s.heap→(g us ws).length=ps.length→BindsTo s fd ⟨us,ks.zip ws⟩ (ps.zip (g us ws))
 rel:∀{vs:List V} {us:List Value} {zs:List V} {ws:List Value},Vals vs us→Vals zs ws→Vals (gV vs zs) (g us ws)
noncomputable def Z13(sp:Sp)(gV:List V→List V→List V)(E:XK)(t tk:TA):TE:=fun σ H Q=>t σ H fun vs H1=>tk σ H1 fun zs H2=>sp (gV vs zs) H2 Q E
variable{g:List Value→List Value→List Value}{gV:List V→List V→List V}
end
structure FnScope(N P:List Str)(sc:Scope):Prop where
 kind:sc.kind= .function
 co:sc.isCoroutine=false
 gen:sc.isGenerator=false
 nd:N.Nodup
 pre:N.take P.length=P
 par:∀x∈P,sc.names.lookup x=some .local∨sc.names.lookup x=some .cell
 nofree:∀y∈sc.names,y.2≠.free
theorem Zhc{kindOf:Str→Option NameKind}{x:Str}:∀{binds:List (Str×Value)} {m:Str→Option Value},(∀v,(x,v)∉binds)→bindL kindOf binds m x=m x
  | [],_,_=>rfl
  | (n,v)::r,m,h=>by
    unfold bindL
    rw[Zhc fun w hw=>h w (List.mem_cons_of_mem _ hw)]
    split
    · have:x≠n:=by rintro rfl;exact h v List.mem_cons_self
      simp[this]
    · rfl
theorem Zhd{kindOf:Str→Option NameKind}{x:Str}:∀{binds:List (Str×Value)} {m:Str→Option Value},(∀v,(x,v)∉binds)→bindC kindOf binds m x=m x
  | [],_,_=>rfl
  | (n,v)::r,m,h=>by
    unfold bindC
    rw[Zhd fun w hw=>h w (List.mem_cons_of_mem _ hw)]
    split
    · rfl
    · have:x≠n:=by rintro rfl;exact h v List.mem_cons_self
      simp[this]
theorem Zhe{kindOf:Str→Option NameKind}{x:Str}{v:Value}:∀{P:List Str} {vs:List Value} {i:Nat} {m:Str→Option Value},P.Nodup→P[i]? =some x→vs[i]? =some v→kindOf x=some .local→
  bindL kindOf (P.zip vs) m x=some v
 | [],_,_,_,_,h,_,_=>by simp at h
 |_::_,[],_,_,_,_,h,_=>by simp at h
 |p::P,w::vs,0,m,nd,h1,h2,hk=>by
  simp at h1 h2;subst h1;subst h2
  show bindL kindOf ((p,w)::P.zip vs) m p=_
  unfold bindL
  rw[Zhc fun v hv=>(List.nodup_cons.mp nd).1 (List.of_mem_zip hv).1,if_pos hk]
  simp
 |p::P,w::vs,i+1,m,nd,h1,h2,hk=>by
  show bindL kindOf ((p,w)::P.zip vs) m x=_
  unfold bindL
  exact Zhe (i:=i) (List.nodup_cons.mp nd).2 (by simpa using h1) (by simpa using h2) hk
theorem Zhf{kindOf:Str→Option NameKind}{x:Str}{v:Value}:∀{P:List Str} {vs:List Value} {i:Nat} {m:Str→Option Value},P.Nodup→P[i]? =some x→vs[i]? =some v→kindOf x≠some .local→
  bindC kindOf (P.zip vs) m x=some v
 | [],_,_,_,_,h,_,_=>by simp at h
 |_::_,[],_,_,_,_,h,_=>by simp at h
 |p::P,w::vs,0,m,nd,h1,h2,hk=>by
  simp at h1 h2;subst h1;subst h2
  show bindC kindOf ((p,w)::P.zip vs) m p=_
  unfold bindC
  rw[Zhd fun v hv=>(List.nodup_cons.mp nd).1 (List.of_mem_zip hv).1,if_neg hk]
  simp
 |p::P,w::vs,i+1,m,nd,h1,h2,hk=>by
  show bindC kindOf ((p,w)::P.zip vs) m x=_
  unfold bindC
  exact Zhf (i:=i) (List.nodup_cons.mp nd).2 (by simpa using h1) (by simpa using h2) hk
noncomputable def start(N:List Str)(vs:List V):St:=vs.map some++List.replicate (N.length- vs.length) none
noncomputable def cxOf(CX:CXT)(P:Program)(w:World)(K:PySem.W.Frag)(mg:Str→Option Value)(base:Heap)(N:List Str)(qual:Str)(scope:Scope)(f:Addr)(cd:Value)(A:Around)(outer:List Env)(s:Shared)(H:Hp)(E:XK):Cx where
 prog:=P
 w:=w
 K:=K
 mg:=mg
 base:=base
 A:=A.deeper (envOfC qual scope s.heap.objs.size f cd)
 N:=N
 s₀:=s
 H₀:=H
 env:=envOfC qual scope s.heap.objs.size f cd
 outer:=outer
 stack:=envOfC qual scope s.heap.objs.size f cd::outer
 ex:=[]
 calm:=true
 fn:=fun _=>true
 pn:=[]
 xe:=fun e s'=>wpAny (model P w) (A.deeper (envOfC qual scope s.heap.objs.size f cd)) (leaving (envOfC qual scope s.heap.objs.size f cd) e) (fun _ s''=>CX outer H s E e s'') (fun e' s''=>CX outer H s E e' s'') s'
theorem Zjl{sc:Scope}{n:Nat}{x:Str}(h:sc.names.lookup x=some .cell):∃c,(cellsFrom n sc.names []).lookup x=some c:=by
 have q:=PySem.W.cellsFrom_some sc.names n [] (.inl h)
 exact Option.isSome_iff_exists.mp q
theorem Zl4{CX:CXT}{P:Program}{w:World}{K:PySem.W.Frag}{mg:Str→Option Value}{base:Heap}{N ps:List Str}{qual:Str}{scope:Scope}{f:Addr}{cd:Value}{A:Around}{outer:List Env}{s s1:Shared}{H:Hp}{E:XK}{us:List Value}{vs:List V}
  (S:FnScope N ps scope) (hd:A.handled=none) (e0:Env0 P w K mg base A outer s H) (hl:vs.length=ps.length) (r:Vals vs us)
  (x:InCallC s s.heap.objs.size (bindL (envOfC qual scope s.heap.objs.size f cd).kindOf (ps.zip us) fun _=>none) (cellsFrom (s.heap.objs.size+1) scope.names []) (bindC (envOfC qual scope s.heap.objs.size f cd).kindOf (ps.zip us) fun _=>none) s1):
  Inv (cxOf CX P w K mg base N qual scope f cd A outer s H E) [] (start N vs) H s1:=by
 have hpl:ps.length≤N.length:=by have:=congrArg List.length S.pre;rw[List.length_take]at this;omega
 obtain⟨h1,tk,rfl,hk⟩:=x.done
 have noA:∀b:Addr,b∉(cxOf CX P w K mg base N qual scope f cd A outer s H E).ex:=fun b z=>absurd (show b∈([]:List Addr)from z) (by simp)
 refine⟨⟨e0.mod,S.kind,rfl,rfl,Nat.le_refl _,fun y z c h1 h2=>?_,fun y hy=>?_,fun y c _ h=>?_,fun _=>hd,Around.frames_deeper e0.frames,.inr ⟨rfl,rfl⟩,fun b z=>absurd z (noA b),e0.bs,e0.bsz,fun b _ _=>noA b,fun b z=>absurd z (noA b),e0.funs,e0.frf⟩,
  rfl,e0.bare,Un.kept hk,⟨_,x.toInCall.ns,fun i y v h1 h2 h3=>?_⟩,fun y c h=>⟨_,x.cell y c h⟩,e0.hok.fresh (Nat.le_refl _),fun y c h=>?_,fun p hp=>absurd (show p∈([]:List (Addr×Obj))from hp) (by simp),e0.hok.kept hk,?_⟩
 ·exact name_of_addr x.apart (PySem.mem_of_lookup h1) (PySem.mem_of_lookup h2)
 ·have hy:scope.names.lookup y=some .cell∨scope.names.lookup y=some .free:=hy
  rcases hy with hy|hy
  ·exact Zjl hy
  ·exact absurd rfl (S.nofree _ (PySem.mem_of_lookup hy))
 ·exact Nat.le_of_lt (x.above y c (PySem.mem_of_lookup h))
 ·have hi:i<vs.length:=by
   unfold start at h2
   by_cases hi:i<vs.length
   ·exact hi
   ·rw[List.getElem?_append_right (by simpa using hi)]at h2
    rw[List.getElem?_replicate]at h2
    split at h2<;> cases h2
  have ha:vs[i]? =some v:=by
   unfold start at h2
   rw[List.getElem?_append_left (by simpa using hi),List.getElem?_map]at h2
   cases e:vs[i]? with
   |none=>rw[e]at h2;cases h2
   |some a=>rw[e]at h2;cases h2;rfl
  obtain⟨u,hu,rv⟩:=r.get ha
  have hp:ps[i]? =some y:=by
   rw[←S.pre,List.getElem?_take_of_lt (by omega)];exact h1
  have ndP:ps.Nodup:=by rw[←S.pre];exact S.nd.sublist (List.take_sublist _ _)
  refine⟨u,rv,?_⟩
  rcases S.par y (List.mem_of_getElem? hp)with k|k
  ·exact .inl ⟨k,Zhe ndP hp hu k⟩
  ·obtain⟨c,e⟩:=Zjl (n:=s.heap.objs.size+1) k
   refine .inr ⟨.inl k,c,e,?_⟩
   have q:=x.cell y c e
   rw[Zhf ndP hp hu (by show scope.names.lookup y≠_;rw[k];decide)]at q
   exact q
 ·exact e0.hok.fresh (Nat.le_of_lt (x.above y c (PySem.mem_of_lookup h)))
 ·unfold start
  show _=N.length
  rw[List.length_append,List.length_map,List.length_replicate]
  omega
theorem Zu9{CX:CXT}{P:Program}{w:World}{K:PySem.W.Frag}{mg:Str→Option Value}{base:Heap}{k:Nat}{f:Addr}{name qual:Str}{params:Arguments}{body:List Stmt}{scope:Scope}{dV kV doc pm cdv ct oc:Value}{an od:Option Addr}
  {osl:Array (Option Value)} {N ps:List Str} {sp:Sp} (lk:K.lookup f=some ⟨oc,od,.func (PySem.W.fnOf name qual params body scope dV kV doc pm an cdv ct),osl⟩) (hcd:PySem.W.codeIn K cdv qual=true) (S:FnScope N ps scope)
  (len:∀vs H Q E,sp vs H Q E→vs.length=ps.length)
  (hbody:∀(A:Around) (outer:List Env) (s:Shared) (H:Hp) (vs:List V) (Q:VK) (E:XK),Room k (A.deeper (envOfC qual scope s.heap.objs.size f cdv))→sp vs H Q E→
   ∃t,PSs (cxOf CX P w K mg base N qual scope f cdv A outer s H E) body t∧t {nx:=fun _ H'=>Q .non H',rt:=Q} (start N vs) H):
  FnOk P w K mg base CX (k+1) f (PySem.W.fnOf name qual params body scope dV kV doc pm an cdv ct) ps sp:=by
 refine⟨len,fun A outer s H args us vs Q E hr e0 hb r hsp=>?_⟩
 have hl:=len _ _ _ _ hsp
 have KX:K.In s.heap:=e0.mod.kin.keeps fun b o e=>(e0.bs b o e).1
 have lim:s.heap.NoLimit:=e0.mod.nolimit.keeps fun b o e=>(e0.bs b o e).1
 have hkind:∀y∈ps.zip us,scope.names.lookup y.1=some .local∨(scope.names.lookup y.1=some .cell∧((cellsFrom (s.heap.objs.size+1) scope.names []).lookup y.1).isSome=true):=fun⟨n,v⟩ hy=>by
  rcases S.par n (List.of_mem_zip hy).1 with q|q
  ·exact .inl q
  ·exact .inr ⟨q,PySem.W.cellsFrom_some _ _ _ (.inl q)⟩
 refine codeAny_call_function hr.depth (KX _ _ lk) rfl S.co S.gen rfl (PySem.W.codeRec_of KX hcd) (hb _ _ _ _ ?_)
 refine wpAny_newFunctionEnv_cells S.kind hkind fun env he s1 x=>?_
 subst he
 refine⟨lim.keeps x.toInCall.keep,codeAny_func ?_⟩
 obtain⟨t,ht,hq⟩:=hbody A outer s H vs Q E (hr.deeper _) hsp
 have I:Inv (cxOf CX P w K mg base N qual scope f cdv A outer s H E) [] (start N vs) H s1:=Zl4 S hr.hd e0 hl r x
 refine wpAny_mono (ht [] s1 (start N vs) H _ I hq) (fun fl s' hs=>?_) fun e s' hs=>hs
 have fin:∀{σ':St} {H':Hp} {v:V} {u:Value},Inv (cxOf CX P w K mg base N qual scope f cdv A outer s H E) [] σ' H' s'→RelV v u→Q v H'→CE outer P w H s Q u s':=
  fun{σ' H' v u} J rv q=>⟨v,H',J.os,J.bare,J.base,J.hok,rv,q⟩
 cases fl with
 |ret u=>
  obtain⟨v,σ',H',J,rv,q⟩:=hs
  exact fin J rv q
 |next=>
  obtain⟨σ',H',J,q⟩:=hs
  exact fin (v:=V.non) (u:=Value.none) J rfl q
 |brk=>
  obtain⟨_,_,_,q⟩:=hs
  exact False.elim q
 |cont=>
  obtain⟨_,_,_,q⟩:=hs
  exact False.elim q
end L2
namespace L2
open PySem PySem.Spec PyProof.Rows
section
variable{X:Cx}{x:Str}{p pos:Pos}{e:Expr}{es:List Expr}{t:TA}{id T:String}{r:List V→Hp→VK→Prop}
noncomputable def tCB(r:List V→Hp→VK→Prop)(t:TA):TE:=fun σ H Q=>t σ H fun vs H1=>r vs H1 Q
theorem Zdk(hc:Zcx X (.builtin id) r)(hg:Gl X x)(hm:X.mg x=none)(hv:bootBuiltins x=some (.builtin id))(ha:PA X (e::es) t)(hn:x≠"__name__":=by decide)(hdb:(x==("__debug__":Str))=false:=by decide)
  (he:starEach (e::es) X.env=(false,eval e X.env)::starEach es X.env:=by rfl) (hpl:(backTo pos (starEach es X.env)).any (·.1)=false:=by rfl):PE X (.Call (.Name x p) (e::es) [] pos) (tCB r t):=by
 intro pins s σ H Q I h
 refine wpAny_Call_Name_kw (Zji I hg hm hv ?_ hn hdb)
 exact PyProof.Rows.callWith_builtin1 (thn (ha pos pins s σ H _ I h) fun us s1 ⟨vs,H1,I1,r1,q1⟩=>hc pins s1 σ H1 vs us Q I1 r1 q1) he hpl
theorem Zhg(hc:Zcx X (.type T) r)(hg:Gl X x)(hm:X.mg x=none)(hv:bootBuiltins x=some (.type T))(ha:PA X (e::es) t)(hn:x≠"__name__":=by decide)(hdb:(x==("__debug__":Str))=false:=by decide)
  (he:starEach (e::es) X.env=(false,eval e X.env)::starEach es X.env:=by rfl) (hpl:(backTo pos (starEach es X.env)).any (·.1)=false:=by rfl):PE X (.Call (.Name x p) (e::es) [] pos) (tCB r t):=by
 intro pins s σ H Q I h
 refine wpAny_Call_Name_kw (Zji I hg hm hv ?_ hn hdb)
 exact PyProof.Rows.callWith_type1 (thn (ha pos pins s σ H _ I h) fun us s1 ⟨vs,H1,I1,r1,q1⟩=>hc pins s1 σ H1 vs us Q I1 r1 q1) he hpl
end
end L2
namespace HT
open PySem PyProof.Rows
noncomputable def lexLt:List Int→List Int→Bool
 | [],[]=>false
 | [],_::_=>true
 |_::_,[]=>false
 |x::xs,y::ys=>if x=y then lexLt xs ys else decide (x<y)
theorem Zud(x y:Int)(xs ys:List Int):lexLt (x::xs) (y::ys)=if x=y then lexLt xs ys else decide (x<y):=rfl
theorem Zoy:lexLt [] []=false:=rfl
theorem Zoo(y:Int)(ys:List Int):lexLt [] (y::ys)=true:=rfl
theorem Zop(x:Int)(xs:List Int):lexLt (x::xs) []=false:=rfl
section
open PySem.SeqAt
open PySem.AutoSeq1 (wpAny_loadPart')
open PySem.MeetsSeq PySem.MeetsSeq2 PySem.MeetsSeq3
end
section
variable{prog:Program}{w:World}{A:Around}{E:Value→Shared→Prop}{s:Shared}
noncomputable def sIx(n d:Nat):Option Int→Nat
 |none=>d
 |some v=>if v<0 then(v+(n:Int)).toNat else min v.toNat n
theorem Zys(n d:Nat):sIx n d none=d:=rfl
end
end HT
namespace L2
open PySem PySem.Spec PyProof.Rows
noncomputable abbrev TO:=St→Hp→(Option Int→Hp→Prop)→Prop
noncomputable def PO(X:Cx)(e:Option Expr)(t:TO):Prop:=
 ∀(pins:List (Addr×Obj)) (s:Shared) (σ:St) (H:Hp) (Q:Option Int→Hp→Prop),Inv X pins σ H s→t σ H Q→
  wpAny (model X.prog X.w) X.A (evalPart e X.env) (fun u s'=>∃o H',Inv X pins σ H' s'∧IsPart u o∧Q o H') X.xe s
noncomputable def Zl5:TO:=fun _ H Q=>Q none H
noncomputable def Zva(t:TE):TO:=fun σ H Q=>t σ H fun x H1=>∃i,x= .int i∧Q (some i) H1
section
variable{X:Cx}{e:Expr}{te:TE}{lo hi:Option Expr}{tl th:TO}{pos p2:Pos}
theorem Zr1:PO X none Zl5:=by
 intro pins s σ H Q I h
 rw[evalPart_none]
 exact wpAny_pure ⟨none,H,I,.none,h⟩
theorem Zr2(h:PE X e te):PO X (some e) (Zva te):=by
 intro pins s σ H Q I hw
 rw[evalPart_some]
 refine thn (h pins s σ H _ I hw) fun u s1 zq9=>?_
 obtain⟨x,H1,I1,r1,q1⟩:=zq9
 obtain⟨i,rfl,q⟩:=q1
 obtain⟨t,rfl⟩:=r1
 exact⟨some i,H1,I1,.int i t,q⟩
noncomputable def SlR(X:Cx)(r:V→Option Int→Option Int→Hp→VK→Prop):Prop:=
 ∀(pins:List (Addr×Obj)) (s:Shared) (σ:St) (H:Hp) (x:V) (v vl vu:Value) (lo hi:Option Int) (sl:Addr) (Q:VK),Inv X pins σ H s→RelV x v→s.heap.IsSliceOf sl vl vu .none→IsPart vl lo→IsPart vu hi→r x lo hi H Q→
  ∃T id,typeLookup (.type T) "__getitem__"=pure (some (.builtin id))∧s.TypeIs v T∧wpAny (model X.prog X.w) X.A (getItem v (.ref sl)) (EP X pins σ Q) X.xe s
theorem SlR.or{r r':V→Option Int→Option Int→Hp→VK→Prop}(h:SlR X r)(h':SlR X r'):SlR X (fun x lo hi H Q=>r x lo hi H Q∨r' x lo hi H Q):=by
 intro pins s σ H x v vl vu lo hi sl Q I rx hs pl pu q
 rcases q with q|q
 ·exact h pins s σ H x v vl vu lo hi sl Q I rx hs pl pu q
 ·exact h' pins s σ H x v vl vu lo hi sl Q I rx hs pl pu q
noncomputable def tSl(r:V→Option Int→Option Int→Hp→VK→Prop)(te:TE)(tl th:TO):TE:=fun σ H Q=>te σ H fun x H1=>tl σ H1 fun l H2=>th σ H2 fun u H3=>r x l u H3 Q
theorem Zoz{r:V→Option Int→Option Int→Hp→VK→Prop}(hr:SlR X r)(he:PE X e te)(hl:PO X lo tl)(hu:PO X hi th):PE X (.Subscript e (.Slice lo hi none p2) pos) (tSl r te tl th):=by
 intro pins s σ H Q I h
 refine Subscript_ (thn (he pins s σ H _ I h) fun v s1 zq9=>?_)
 obtain⟨x,H1,I1,r1,q1⟩:=zq9
 refine wpAny_Slice (thn (hl pins s1 σ H1 _ I1 q1) fun vl s2 ⟨l,H2,I2,pl,q2⟩=>thn (hu pins s2 σ H2 _ I2 q2) fun vu s3 zq9=>?_)
 obtain⟨u,H3,I3,pu,q3⟩:=zq9
 rw[evalPart_none]
 refine wpAny_pure ?_
 have I4:Inv X pins σ H3 {s3 with heap:=s3.heap.push {cls:=.type "slice",data:=.fields #[vl,vu,.none]}}:=I3.kept (t':=s3.toks) fun b ob q=>Heap.get?_push_of_some _ q
 obtain⟨T,id,hT,ht,hg⟩:=hr pins {s3 with heap:=s3.heap.push {cls:=.type "slice",data:=.fields #[vl,vu,.none]}} σ H3 x v vl vu l u s3.heap.objs.size Q I4 r1 (Heap.IsSliceOf.new ..) pl pu q3
 show wpAny (model X.prog X.w) X.A (subscriptTail e (.Slice lo hi none p2) v (.ref s3.heap.objs.size)) (EP X pins σ Q) X.xe {s3 with heap:=s3.heap.push {cls:=.type "slice",data:=.fields #[vl,vu,.none]}}
 exact tail_any (ops:=[.ref s3.heap.objs.size,v]) ht hT hg (by with_unfolding_all rfl)
noncomputable def cutV(xs:List V)(lo hi:Option Int):List V:=(xs.drop (HT.sIx xs.length 0 lo)).take (HT.sIx xs.length xs.length hi- HT.sIx xs.length 0 lo)
theorem Zir(xs:List V)(lo hi:Option Int):(cutV xs lo hi).length≤xs.length:=by
 unfold cutV
 rw[List.length_take,List.length_drop]
 omega
noncomputable def rSlT(K:PySem.W.Frag):V→Option Int→Option Int→Hp→VK→Prop:=fun x lo hi H Q=>∃a xs,x= .ref a∧SqT K H a xs∧
 ¬(HT.sIx xs.length 0 lo=0∧HT.sIx xs.length xs.length hi=xs.length)∧∀p,H p=none→Q (.ref p) (upd H p (.tup (cutV xs lo hi)))
noncomputable def rLtT(K:PySem.W.Frag):R2:=fun x y H Q=>∃a b ns ms,x= .ref a∧y= .ref b∧SqT K H a (ns.map V.int)∧SqT K H b (ms.map V.int)∧Q (.bl (HT.lexLt ns ms)) H
noncomputable def Z3k(K:PySem.W.Frag):R2:=fun x y H Q=>∃a b xs ys,x= .ref a∧y= .ref b∧SqT K H a xs∧SqT K H b ys∧xs≠[]∧xs.length+ys.length≤sizeLine∧
 (ys=[]→Q (.ref a) H)∧(ys≠[]→∀p,H p=none→Q (.ref p) (upd H p (.tup (xs++ys))))
theorem Vals.nil_iff{xs:List V}{us:List Value}(r:Vals xs us):us=[]↔xs=[]:=by
 cases r with
 |nil=>simp
 |cons _ _=>simp
end
end L2
namespace L2
open PySem PySem.Spec PyProof.Rows
noncomputable def ixN(n:Nat)(i:Int):Option Nat:=if 0≤i then(if i<n then some i.toNat else none)else if-(n:Int)≤i then some (i+n).toNat else none
noncomputable def atI{α:Type}(xs:List α)(i:Int):Option α:=(ixN xs.length i).bind fun j=>xs[j]?
theorem Zr3{n:Nat}{i:Int}{j:Nat}(h:ixN n i=some j):seqIndex? i n=some j∧j<n∧-(n:Int)≤i∧i<n:=by
 unfold ixN at h
 by_cases h0:0≤i
 ·rw[if_pos h0]at h
  by_cases h1:i<n
  ·rw[if_pos h1]at h
   have e:i.toNat=j:=Option.some.inj h
   exact⟨by rw[seqIndex_of h0 h1,e],by omega,by omega,h1⟩
  ·rw[if_neg h1]at h;cases h
 ·rw[if_neg h0]at h
  by_cases h1:-(n:Int)≤i
  ·rw[if_pos h1]at h
   have e:(i+n).toNat=j:=Option.some.inj h
   exact⟨by rw[seqIndex_neg (by omega) h1,e],by omega,h1,by omega⟩
  ·rw[if_neg h1]at h;cases h
theorem Zis{α:Type}{xs:List α}{i:Int}{v:α}(h:atI xs i=some v):∃j,seqIndex? i xs.length=some j∧xs[j]? =some v∧j<xs.length∧-(xs.length:Int)≤i∧i<xs.length:=by
 unfold atI at h
 cases e:ixN xs.length i with
 |none=>rw[e]at h;cases h
 |some j=>
  rw[e]at h
  obtain⟨h1,h2,h3,h4⟩:=Zr3 e
  exact⟨j,h1,h,h2,h3,h4⟩
theorem Zr4{α:Type}{xs:List α}{j:Nat}{v:α}(h:xs[j]? =some v):atI xs (j:Int)=some v:=by
 have hj:j<xs.length:=(List.getElem?_eq_some_iff.mp h).1
 have e:ixN xs.length (j:Int)=some j:=by
  unfold ixN
  rw[if_pos (by omega),if_pos (by omega)];simp
 unfold atI;rw[e];exact h
theorem Zo0{α:Type}(xs:List α)(v:α):atI (xs++[v]) (-1)=some v:=by
 have hl:(xs++[v]).length=xs.length+1:=by simp
 have e:ixN (xs++[v]).length (-1)=some xs.length:=by
  unfold ixN
  rw[hl,if_neg (by decide),if_pos (by omega)]
  congr 1
  omega
 unfold atI
 rw[e]
 show(xs++[v])[xs.length]? =some v
 simp
noncomputable def Zl6(b:Expr):Prop:=∀o i,subscripted b false o i=operate [o,i] (getItem o i)
noncomputable def IxR(X:Cx)(r:R2):Prop:=
 ∀(value slice:Expr) (pins:List (Addr×Obj)) (s:Shared) (σ:St) (H:Hp) (x y:V) (v u:Value) (Q:VK),Inv X pins σ H s→RelV x v→RelV y u→r x y H Q→
  subscripted slice false v u=operate [v,u] (getItem v u)→wpAny (model X.prog X.w) X.A (subscriptTail value slice v u) (EP X pins σ Q) X.xe s
noncomputable def MtR(X:Cx)(id:String)(r:V→List V→Hp→VK→Prop):Prop:=
 ∀(pins:List (Addr×Obj)) (s:Shared) (σ:St) (H:Hp) (x:V) (xs:List V) (v:Value) (us:List Value) (Q:VK),Inv X pins σ H s→RelV x v→Vals xs us→r x xs H Q→
  wpAny (model X.prog X.w) X.A (call (.builtin id) (v::us)) (EP X pins σ Q) X.xe s
section
variable{X:Cx}{a b:Expr}{ta tb:TE}{pos:Pos}
theorem IxR.or{r r':R2}(h:IxR X r)(h':IxR X r'):IxR X (fun x y H Q=>r x y H Q∨r' x y H Q):=by
 intro value slice pins s σ H x y v u Q I rx ry q hs
 rcases q with q|q
 ·exact h value slice pins s σ H x y v u Q I rx ry q hs
 ·exact h' value slice pins s σ H x y v u Q I rx ry q hs
theorem Zr5{r:R2}(hr:IxR X r)(ha:PE X a ta)(hb:PE X b tb)(hs:Zl6 b):PE X (.Subscript a b pos) (tOp r ta tb):=by
 intro pins s σ H Q I h
 exact Subscript_ (binT ha hb I h fun v u s2 x y H2 I2 rx ry q=>hr a b pins s2 σ H2 x y v u Q I2 rx ry q (hs _ _))
noncomputable def rIxL(K:PySem.W.Frag):R2:=fun x y H Q=>∃p xs i v,x= .ref p∧y= .int i∧SqL K H p xs∧atI xs i=some v∧Q v H
noncomputable def rIxT(K:PySem.W.Frag):R2:=fun x y H Q=>∃p xs i v,x= .ref p∧y= .int i∧SqT K H p xs∧atI xs i=some v∧Q v H
noncomputable def rIxS:R2:=fun x y H Q=>∃z i c,x= .str z∧y= .int i∧z.length≤sizeLine∧atI z.cps.toList i=some c∧Q (.str ⟨#[c]⟩) H
theorem Zit:IxR X (rIxL X.K):=by
 intro value slice pins s σ H x y v u Q I rx ry h hs
 obtain⟨p,xs,i,z,rfl,rfl,hq,he,q⟩:=h
 cases rx
 obtain⟨t,rfl⟩:=ry
 obtain⟨its,r,pl,hz⟩:=I.list hq
 obtain⟨j,h1,h2,h3,h4,h5⟩:=Zis he
 obtain⟨w,ew,rw'⟩:=r.get h2
 have hl:=r.length
 have hn:=Zha
 have fin:EP X pins σ Q w s:=⟨z,H,I,rw',q⟩
 by_cases h0:0≤i
 ·have hj:i.toNat=j:=by
   rw[seqIndex_of h0 h5]at h1
   exact Option.some.inj h1
  exact item_listR pl.isList h0 (by omega) (by rw[hj];simpa using ew) fin hs
 ·have hj:(i+(its.toArray.size:Int)).toNat=j:=by
   rw[seqIndex_neg (by omega) h4]at h1
   rw[List.size_toArray,←hl]
   exact Option.some.inj h1
  exact subscriptTail_builtinR (x:=w) pl.isList.typeIs slot_list_getitem.lookup
   (wpAny_getItem_list_neg (Q:=fun r s'=>r=w∧EP X pins σ Q r s') pl.isList (by omega) (by rw[List.size_toArray]<;> omega) (by omega) (by rw[hj];simpa using ew) ⟨rfl,fin⟩) hs
theorem Zvb:IxR X (rIxT X.K):=by
 intro value slice pins s σ H x y v u Q I rx ry h hs
 obtain⟨p,xs,i,z,rfl,rfl,hq,he,q⟩:=h
 cases rx
 obtain⟨t,rfl⟩:=ry
 obtain⟨its,r,pl,hz⟩:=I.tuple hq
 obtain⟨j,h1,h2,h3,h4,h5⟩:=Zis he
 obtain⟨w,ew,rw'⟩:=r.get h2
 have hl:=r.length
 have hn:=Zha
 have fin:EP X pins σ Q w s:=⟨z,H,I,rw',q⟩
 exact subscriptTail_builtinR (x:=w) pl.typeIs slot_tuple_getitem.lookup
  (getItem_tuple (j:=j) (Q:=fun r s'=>r=w∧EP X pins σ Q r s') pl (by omega) (by omega) (by rw[List.size_toArray,←hl];exact h1) (by simpa using ew) ⟨rfl,fin⟩) hs
theorem Zvc:IxR X rIxS:=by
 intro value slice pins s σ H x y v u Q I rx ry h hs
 obtain⟨z,i,c,rfl,rfl,hz,he,q⟩:=h
 obtain⟨t,rfl⟩:=rx
 obtain⟨t',rfl⟩:=ry
 obtain⟨j,h1,h2,h3,h4,h5⟩:=Zis he
 have hl:z.cps.toList.length=z.length:=by simp[Str.length]
 rw[hl]at h1 h4 h5
 have hn:=Zha
 exact tail_any (typeIs_str s z t) slot_str_getitem.lookup (getItem_str (c:=c) (by
  have e1:decide (i< -(2^63:Int))=false:=decide_eq_false (by omega)
  have e2:decide (i≥2^63)=false:=decide_eq_false (by omega)
  rw[e1,e2,Bool.or_false]) (by rw[h1];simpa using h2) ⟨.str ⟨#[c]⟩,H,I.tok _,⟨_,rfl⟩,q⟩) hs
noncomputable def rIx(K:PySem.W.Frag):R2:=fun x y H Q=>rIxL K x y H Q∨rIxT K x y H Q∨rIxS x y H Q
theorem Zvd:IxR X (rIx X.K):=Zit.or (Zvb.or Zvc)
noncomputable def Z3l:V→V→V→Hp→(Hp→Prop)→Prop:=fun o i v H Q=>∃p xs k j,o= .ref p∧i= .int k∧H p=some (.lst xs)∧ixN xs.length k=some j∧Q (upd H p (.lst (xs.set j v)))
theorem Zhh(lo hi:Option Int)(n:Nat):(sliceBounds lo hi none n).1=((HT.sIx n 0 lo:Nat):Int)∧(sliceBounds lo hi none n).2.1=((HT.sIx n n hi:Nat):Int)∧(sliceBounds lo hi none n).2.2=1:=by
 refine⟨?_,?_,rfl⟩
 ·cases lo with
  |none=>simp[sliceBounds,HT.sIx]
  |some i=>
   simp only[sliceBounds,HT.sIx,Option.getD_none,show(1:Int) > 0 by decide,if_true]
   by_cases h:i<0
   ·simp only[h,if_true]<;> omega
   ·simp only[h,if_false]<;> omega
 ·cases hi with
  |none=>simp[sliceBounds,HT.sIx]
  |some i=>
   simp only[sliceBounds,HT.sIx,Option.getD_none,show(1:Int) > 0 by decide,if_true]
   by_cases h:i<0
   ·simp only[h,if_true]<;> omega
   ·simp only[h,if_false]<;> omega
theorem Zgg(its:List Value)(lo hi:Option Int):slicePick its.toArray lo hi none=((its.drop (HT.sIx its.length 0 lo)).take (HT.sIx its.length its.length hi- HT.sIx its.length 0 lo)).toArray:=by
 obtain⟨h1,h2,h3⟩:=Zhh lo hi its.toArray.size
 unfold slicePick
 rw[h1,h2,h3]
 simp only[sliceRange_one,pick_run,List.size_toArray]<;> rfl
noncomputable def rSlL(K:PySem.W.Frag):V→Option Int→Option Int→Hp→VK→Prop:=fun x lo hi H Q=>∃a xs,x= .ref a∧SqL K H a xs∧∀p,H p=none→Q (.ref p) (upd H p (.lst (cutV xs lo hi)))
theorem Zr6:SlR X (rSlL X.K):=by
 intro pins s σ H x v vl vu lo hi sl Q I rx hs pl pu h
 obtain⟨a,xs,rfl,hx,q⟩:=h
 cases rx
 obtain⟨its,r,ht,hz⟩:=I.list hx
 have hlen:=r.length
 refine⟨"list",_,slot_list_getitem.lookup,ht.isList.typeIs,?_⟩
 refine wpAny_getItem_list_slice ht.isList hs pl pu .none (by simp) ?_ (by rw[List.size_toArray]<;> omega)
 rw[Zgg,←hlen]
 refine⟨.ref s.heap.objs.size,_,I.laid (t':=s.toks) (o:=.lst (cutV xs lo hi)) (fun b ob q=>Heap.get?_push_of_some _ q) (Nat.le_refl _) ?_,rfl,q _ (I.hok.fresh (Nat.le_refl _))⟩
 exact⟨Nat.le_trans (Zir xs lo hi) hz,_,0,(r.drop (HT.sIx xs.length 0 lo)).take (HT.sIx xs.length xs.length hi- HT.sIx xs.length 0 lo),Heap.get?_push_size _ rfl⟩
noncomputable def Zav:V→Bool
 | .non=>true
 | .bl _=>true
 | .int _=>true
 | .str _=>true
 |_=>false
noncomputable def eqV:V→V→Bool
 | .non,.non=>true
 | .bl a,.bl b=>a==b
 | .bl a,.int b=>(if a then 1 else 0)==b
 | .int a,.bl b=>a==(if b then 1 else 0)
 | .int a,.int b=>a==b
 | .str a,.str b=>a==b
 |_,_=>false
theorem Zqj{A:Around}{s:Shared}{y x:V}{u v:Value}(ry:RelV y u)(rx:RelV x v)(fy:Zav y=true)(fx:Zav x=true):SeqAt.EqAt A s u v (eqV y x):=by
 cases y with
 |non=>
  cases ry
  cases x with
  |non=>cases rx;exact SeqAt.EqAt.same _
  |bl b=>cases rx;exact SeqAt.EqAt.none_bool b
  |int b=>obtain⟨t,rfl⟩:=rx;exact SeqAt.EqAt.none_int b t
  |str b=>obtain⟨t,rfl⟩:=rx;exact SeqAt.EqAt.none_str b t
  |_=>exact absurd (show false=true from fx) Bool.false_ne_true
 |bl a=>
  cases ry
  cases x with
  |non=>cases rx;exact SeqAt.EqAt.bool_none a
  |bl b=>cases rx;exact SeqAt.EqAt.bool_bool a b
  |int b=>obtain⟨t,rfl⟩:=rx;exact SeqAt.EqAt.bool_int a b t
  |str b=>obtain⟨t,rfl⟩:=rx;exact SeqAt.EqAt.bool_str a b t
  |_=>exact absurd (show false=true from fx) Bool.false_ne_true
 |int a=>
  obtain⟨t',rfl⟩:=ry
  cases x with
  |non=>cases rx;exact SeqAt.EqAt.int_none a t'
  |bl b=>cases rx;exact SeqAt.EqAt.int_bool a t' b
  |int b=>obtain⟨t,rfl⟩:=rx;exact SeqAt.EqAt.int_int a t' b t
  |str b=>obtain⟨t,rfl⟩:=rx;exact SeqAt.EqAt.int_str a t' b t
  |_=>exact absurd (show false=true from fx) Bool.false_ne_true
 |str a=>
  obtain⟨t',rfl⟩:=ry
  cases x with
  |non=>cases rx;exact SeqAt.EqAt.str_none a t'
  |bl b=>cases rx;exact SeqAt.EqAt.str_bool a t' b
  |int b=>obtain⟨t,rfl⟩:=rx;exact SeqAt.EqAt.str_int a t' b t
  |str b=>obtain⟨t,rfl⟩:=rx;exact SeqAt.EqAt.str_str a t' b t
  |_=>exact absurd (show false=true from fx) Bool.false_ne_true
 |_=>exact absurd (show false=true from fy) Bool.false_ne_true
noncomputable def eqU(x:V)(u:Value):Bool:=match u with
 | .none=>eqV .non x
 | .bool b=>eqV (.bl b) x
 | .int i _=>eqV (.int i) x
 | .str z _=>eqV (.str z) x
 |_=>false
theorem Zl7{x y:V}{u:Value}(r:RelV y u)(f:Zav y=true):eqU x u=eqV y x:=by
 cases y with
 |non=>cases r;rfl
 |bl b=>cases r;rfl
 |int i=>obtain⟨t,rfl⟩:=r;rfl
 |str z=>obtain⟨t,rfl⟩:=r;rfl
 |_=>exact absurd (show false=true from f) Bool.false_ne_true
theorem Ziu{x:V}:∀{xs:List V} {us:List Value},Vals xs us→xs.all Zav=true→us.any (eqU x)=xs.any fun y=>eqV y x
 |_,_,.nil,_=>rfl
 |y::xs,u::us,.cons r t,f=>by
  rw[List.all_cons,Bool.and_eq_true]at f
  rw[List.any_cons,List.any_cons,Zl7 r f.1,Ziu t f.2]
theorem Ze6{A:Around}{s:Shared}{x:V}{v:Value}(rx:RelV x v)(fx:Zav x=true):∀{xs:List V} {us:List Value},Vals xs us→xs.all Zav=true→∀u∈us,SeqAt.EqAt A s u v (eqU x u)
 |_,_,.nil,_=>fun u hu=>by cases hu
 |y::xs,u::us,.cons r t,f=>fun u' hu=>by
  rw[List.all_cons,Bool.and_eq_true]at f
  rcases List.mem_cons.mp hu with rfl|hu
  ·rw[Zl7 r f.1];exact Zqj r rx f.1 fx
  ·exact Ze6 rx fx t f.2 u' hu
noncomputable def inV(x:V)(xs:List V):Bool:=xs.any fun y=>eqV y x
noncomputable def rIn(K:PySem.W.Frag)(neg:Bool):R2:=fun x y H Q=>∃p xs,y= .ref p∧(SqL K H p xs∨SqT K H p xs)∧Zav x=true∧xs.all Zav=true∧Q (.bl (if neg then !inV x xs else inV x xs)) H
theorem Zhi:OpR X (compareOp .In) (rIn X.K false):=by
 intro pins s σ H x y v u Q I rx ry h
 obtain⟨p,xs,rfl,hq,fx,fs,q⟩:=h
 cases ry
 rcases hq with hq|hq
 ·obtain⟨its,r,pl,hz⟩:=I.list hq
  refine SeqAt.in_listAt (eqU x) pl.isList (fun w hw=>Ze6 rx fx r fs w (by simpa using hw)) ⟨.bl _,H,I,rfl,?_⟩
  rw[show its.toArray.any (eqU x)=its.any (eqU x) by simp,Ziu r fs]
  exact q
 ·obtain⟨its,r,pl,hz⟩:=I.tuple hq
  refine SeqAt.in_tupleAt (eqU x) pl (fun w hw=>Ze6 rx fx r fs w (by simpa using hw)) ⟨.bl _,H,I,rfl,?_⟩
  rw[show its.toArray.any (eqU x)=its.any (eqU x) by simp,Ziu r fs]
  exact q
theorem Zet:Zcx X (.builtin "len") (fun xs H Q=>∃p ys,xs=[.ref p]∧(SqL X.K H p ys∨SqT X.K H p ys)∧Q (.int ys.length) H):=by
 intro pins s σ H xs us Q I r h
 obtain⟨p,ys,rfl,hq,q⟩:=h
 obtain⟨u,rfl,rx⟩:=Zfw r
 cases rx
 have hn:=Zha
 rcases hq with hq|hq
 ·obtain⟨its,r',pl,hz⟩:=I.list hq
  have hlen:=r'.length
  exact Calls.call_len_list pl.isList (by simp only[List.size_toArray]<;> omega) ⟨.int ys.length,H,I.tok _,⟨s.toks+1,by rw[List.size_toArray,hlen]⟩,q⟩
 ·obtain⟨its,r',pl,hz⟩:=I.tuple hq
  have hlen:=r'.length
  exact len_tuple pl (by simp only[List.size_toArray]<;> omega) ⟨.int ys.length,H,I.tok _,⟨s.toks+1,by rw[List.size_toArray,hlen]⟩,q⟩
theorem Zhj:Zcx X (.builtin "len") (fun xs H Q=>∃z,xs=[.str z]∧z.length≤sizeLine∧Q (.int z.length) H):=by
 intro pins s σ H xs us Q I r h
 obtain⟨z,rfl,hz,q⟩:=h
 obtain⟨u,rfl,t,rfl⟩:=Zfw r
 have hn:=Zha
 exact len_str (by omega) ⟨.int z.length,H,I.tok _,⟨_,rfl⟩,q⟩
theorem Zcx.or{f:Value}{r r':List V→Hp→VK→Prop}(h:Zcx X f r)(h':Zcx X f r'):Zcx X f (fun xs H Q=>r xs H Q∨r' xs H Q):=by
 intro pins s σ H xs us Q I rs q
 rcases q with q|q
 ·exact h pins s σ H xs us Q I rs q
 ·exact h' pins s σ H xs us Q I rs q
theorem Zd3:Zcx X (.type "tuple") (fun xs H Q=>∃p ys,xs=[.ref p]∧((SqL X.K H p ys∧∀l,H l=none→Q (.ref l) (upd H l (.tup ys)))∨(SqT X.K H p ys∧Q (.ref p) H))):=by
 intro pins s σ H xs us Q I r h
 obtain⟨p,ys,rfl,h⟩:=h
 obtain⟨u,rfl,rx⟩:=Zfw r
 cases rx
 rcases h with⟨hq,q⟩|⟨hq,q⟩
 ·obtain⟨its,r',pl,hz⟩:=I.list hq
  have hlen:=r'.length
  refine call_tuple_list pl.isList (fun h' kp=>?_) (by simp only[List.size_toArray]<;> omega)
  have I1:Inv X pins σ H {s with heap:=h'}:=I.kept (t':=s.toks) kp
  have I2:Inv X pins σ (upd H h'.objs.size (.tup ys)) {s with heap:=h'.push {cls:=.type "tuple",data:=.seq its.toArray}}:=
   I1.laid (t':=s.toks) (fun b o e=>Heap.get?_push_of_some _ e) (Nat.le_refl _) (show Zcw X.prog X.w _ _ _ (.tup ys)from⟨hz,its,r',IsTup.new _ _⟩)
  exact⟨.ref h'.objs.size,_,I2,rfl,q _ (I1.hok.fresh (Nat.le_refl _))⟩
 ·obtain⟨its,r',pl,hz⟩:=I.tuple hq
  exact call_tuple_same pl ⟨.ref p,H,I,rfl,q⟩
noncomputable def tyV(K:PySem.W.Frag)(T:String)(x:V)(H:Hp):Prop:=match x with
 | .str _=>T="str"
 | .int _=>T="int"
 | .ref p=>(T="list"∧∃xs,SqL K H p xs)∨(T="tuple"∧∃o,K.lookup p=some o∧o.cls= .type "tuple"∧o.dict=none)∨
   (T="dict"∧((∃kvs,HK H p kvs)∨∃kvs,HTt H p kvs))∨(T="set"∧∃S n,H p=some (.set S n))
 |_=>False
theorem Zqk{pins:List (Addr×Obj)}{σ:St}{H:Hp}{s:Shared}{T:String}{x:V}{v:Value}(I:Inv X pins σ H s)(r:RelV x v)(ty:tyV X.K T x H):
  s.TypeIs v T∧∀a,v= .ref a→∃ob,s.heap.get? a=some ob∧ob.dict=none:=by
 cases x with
 |str z=>
  obtain⟨t,rfl⟩:=r
  cases(show T="str"from ty)
  exact⟨typeIs_str s z t,fun _ e=>nomatch e⟩
 |int i=>
  obtain⟨t,rfl⟩:=r
  cases(show T="int"from ty)
  exact⟨typeIs_int s i t,fun _ e=>nomatch e⟩
 |ref p=>
  cases r
  rcases ty with⟨rfl,xs,hq⟩|⟨rfl,o,hk,hc,hd⟩|⟨rfl,hk⟩|⟨rfl,S,n,hk⟩
  ·obtain⟨its,_,pl,_⟩:=I.list hq
   refine⟨pl.isList.typeIs,fun a e=>?_⟩
   cases e
   obtain⟨o,n,e,c,hd,_⟩:=pl
   exact⟨o,e,hd⟩
  ·refine⟨⟨o,I.kIn p o hk,hc⟩,fun a e=>?_⟩
   cases e
   exact⟨o,I.kIn _ o hk,hd⟩
  ·have z:∃o,s.heap.get? p=some o∧o.ExactDict:=by
    rcases hk with⟨kvs,ep,hk⟩|⟨kvs,ep,bs,hk⟩
    ·obtain⟨_,_,_,_,o,_,e,ex,_⟩:=I.hok p _ hk
     exact⟨o,e,ex⟩
    ·obtain⟨_,_,_,_,o,_,e,ex,_⟩:=I.hok p _ hk
     exact⟨o,e,ex⟩
   obtain⟨o,e,ex⟩:=z
   refine⟨⟨o,e,ex.1⟩,fun a e2=>?_⟩
   cases e2
   exact⟨o,e,ex.2.1⟩
  ·obtain⟨o,_,_,_,e,ex,_⟩:=I.hok p _ hk
   refine⟨⟨o,e,ex.1⟩,fun a e2=>?_⟩
   cases e2
   exact⟨o,e,ex.2.1⟩
 |_=>exact False.elim ty
noncomputable def tBM0(K:PySem.W.Frag)(T:String)(r:V→List V→Hp→VK→Prop)(to:TE):TE:=fun σ H Q=>to σ H fun x H1=>tyV K T x H1∧r x [] H1 Q
noncomputable def tBM(K:PySem.W.Frag)(T:String)(r:V→List V→Hp→VK→Prop)(to:TE)(t:TA):TE:=fun σ H Q=>to σ H fun x H1=>tyV K T x H1∧t σ H1 fun xs H2=>r x xs H2 Q
variable{o e:Expr}{es:List Expr}{to:TE}{t:TA}{name:Str}{apos cpos:Pos}{T id:String}{r:V→List V→Hp→VK→Prop}
theorem Zve(pa:PlainAttrs T)(slot:Slot T name id)(hty:typeOf (.builtin id)=pure (.type "method_descriptor"))(hm:MtR X id r)(ho:PE X o to)
  (hbase:attributeBase o name X.env (eval o X.env)=eval o X.env:=by rfl) (hline:(apos.endLine==cpos.line)=true:=by rfl):PE X (.Call (.Attribute o name apos) [] [] cpos) (tBM0 X.K T r to):=by
 intro pins s σ H Q I h
 refine wpAny_Call_method0_late hbase hline (thn (ho pins s σ H _ I h) fun v s1 zq9=>?_)
 obtain⟨x,H1,I1,r1,ty,q1⟩:=zq9
 obtain⟨h1,h2⟩:=Zqk I1 r1 ty
 exact⟨T,id,pa,slot,hty,h1,h2,Calls.callWith_builtin rfl (PySem.evalArgs_none (hm pins s1 σ H1 x [] v [] Q I1 r1 .nil q1))⟩
theorem Zhk(pa:PlainAttrs T)(slot:Slot T name id)(hty:typeOf (.builtin id)=pure (.type "method_descriptor"))(hm:MtR X id r)(ho:PE X o to)(ha:PA X (e::es) t)
  (hbase:attributeBase o name X.env (eval o X.env)=eval o X.env:=by rfl)
  (hfew:((backTo cpos (starEach (e::es) X.env)).all (fun x=>!x.1)&&(backToKw cpos (keywordEach [] X.env)).all (fun x=>x.1.isSome)
   &&decide ((e::es).length+([]:List Keyword).length+(if([]:List Keyword).isEmpty then 0 else 1)<30))=true:=by rfl)
  (hline:(apos.endLine==cpos.line)=true:=by rfl) (hs:starEach (e::es) X.env=(false,eval e X.env)::starEach es X.env:=by rfl) (hplain:(backTo cpos (starEach es X.env)).any (·.1)=false:=by rfl):
  PE X (.Call (.Attribute o name apos) (e::es) [] cpos) (tBM X.K T r to t):=by
 intro pins s σ H Q I h
 refine wpAny_Call_method_late hbase hfew hline rfl (thn (ho pins s σ H _ I h) fun v s1 zq9=>?_)
 obtain⟨x,H1,I1,r1,ty,q1⟩:=zq9
 obtain⟨h1,h2⟩:=Zqk I1 r1 ty
 refine⟨T,id,pa,slot,hty,h1,h2,?_⟩
 have hA:=ha cpos pins s1 σ H1 _ I1 q1
 rw[hs]at hA⊢
 refine Calls.callWith_builtin (by show(false|| (backTo cpos (starEach es X.env)).any (·.1))=false;rw[hplain]<;> rfl) (Calls.evalArgs_plain ?_)
 exact thn hA fun us s2 ⟨vs,H2,I2,r2,q2⟩=>hm pins s2 σ H2 x vs v us Q I2 r1 r2 q2
end
end L2
namespace L2
open PySem PySem.Spec PyProof.Rows
noncomputable def MtM(X:Cx)(id:String)(r:V→List V→Hp→VK→Prop):Prop:=
 ∀(pins:List (Addr×Obj)) (s:Shared) (σ:St) (H:Hp) (x:V) (xs:List V) (v:Value) (us:List Value) (Q:VK),Inv X pins σ H s→RelV x v→Vals xs us→r x xs H Q→
  wpAny (model X.prog X.w) X.A (call (.builtin id) (v::us)) (EP X pins σ Q) X.xe s
theorem Vals.one{x:V}{us:List Value}(h:Vals [x] us):∃u,us=[u]∧RelV x u:=by
 cases h with
 |cons r t=>cases t;exact⟨_,rfl,r⟩
theorem Vals.zero:∀{us:List Value},Vals [] us→us=[]
 |_,.nil=>rfl
theorem Vals.dropLast{xs:List V}{us:List Value}(h:Vals xs us):Vals xs.dropLast us.dropLast:=by
 induction h with
 |nil=>exact .nil
 |cons r t ih=>
  cases t with
  |nil=>exact .nil
  |cons q t'=>exact .cons r ih
theorem Vals.rep{xs:List V}{us:List Value}(h:Vals xs us):∀k:Nat,Vals (List.replicate k xs).flatten (List.replicate k us).flatten
 |0=>.nil
 |k+1=>by
  rw[List.replicate_succ,List.replicate_succ,List.flatten_cons,List.flatten_cons]
  exact Vals.append h (Vals.rep h k)
theorem Zkz{α:Type}(l:List α):l.eraseIdx (l.length- 1)=l.dropLast:=by
 induction l with
 |nil=>rfl
 |cons a r ih=>
  cases r with
  |nil=>rfl
  |cons b r=>
   have e:(a::b::r).length- 1=((b::r).length- 1)+1:=by
    have h1:(a::b::r).length=r.length+2:=rfl
    have h2:(b::r).length=r.length+1:=rfl
    omega
   rw[e,List.eraseIdx_cons_succ,ih]
   all_goals rfl
theorem Zhl(its:List Value):∀(k:Nat) (acc:List Value),
  List.foldl (fun x1 x2=>x1++x2) acc.toArray (List.replicate k its.toArray)=(acc++(List.replicate k its).flatten).toArray
 |0,acc=>by simp
 |k+1,acc=>by
  have e:acc.toArray++its.toArray=(acc++its).toArray:=by simp
  have e2:(acc++its)++(List.replicate k its).flatten=acc++(List.replicate (k+1) its).flatten:=by
   rw[List.replicate_succ,List.flatten_cons,List.append_assoc]
  rw[←e2,←Zhl its k (acc++its),←e,List.replicate_succ,List.foldl_cons]
section
variable{X:Cx}{pins:List (Addr×Obj)}{σ:St}{H:Hp}{s:Shared}{l b:Addr}{xs ys zs:List V}
theorem Inv.lset{its its':List Value}{n:Nat}{f:Array Value→Array Value}{t':Nat}(I:Inv X pins σ H s)(hH:H l=some (.lst xs))
  (e:s.heap.get? l=some {cls:=.type "list",data:=.seq its.toArray n}) (hf:f its.toArray=its'.toArray) (hv:Vals ys its') (hz:ys.length≤sizeLine):
  Inv X pins σ (upd H l (.lst ys)) {s with heap:=s.heap.update l (Obj.mapSeq f),toks:=t'}:=by
 have q:=PySem.IsL.update e f
 rw[hf]at q
 refine I.write (x:=l) (e:=l) (by rw[hH];exact trivial) (.inl rfl) (fun b' u hb hu=>(Heap.get?_update_other s.heap (Obj.mapSeq f) (Ne.symm hb)).trans hu) ⟨_,q⟩ ?_
 exact⟨hz,its',_,hv,q⟩
theorem Inv.lnew{its:List Value}{t':Nat}(I:Inv X pins σ H s)(hv:Vals ys its)(hz:ys.length≤sizeLine):
  Inv X pins σ (upd H s.heap.objs.size (.lst ys)) {s with heap:=s.heap.push {cls:=.type "list",data:=.seq its.toArray},toks:=t'}:=
 I.laid (fun _ _ q=>Heap.get?_push_of_some _ q) (Nat.le_refl _) ⟨hz,its,0,hv,Heap.get?_push_size _ rfl⟩
theorem Inv.fresh(I:Inv X pins σ H s):H s.heap.objs.size=none:=I.hok.fresh (Nat.le_refl _)
theorem Inv.lstM(I:Inv X pins σ H s)(hH:H l=some (.lst xs)):xs.length≤sizeLine∧∃(its:List Value) (n:Nat),Vals xs its∧xs.length=its.length∧s.heap.get? l=some {cls:=.type "list",data:=.seq its.toArray n}:=by
 obtain⟨z,its,n,r,e⟩:=I.hok l _ hH
 exact⟨z,its,n,r,r.length,e⟩
end
section
variable{X:Cx}
noncomputable def Zcz:V→List V→Hp→VK→Prop:=fun x vs H Q=>∃l xs y,x= .ref l∧vs=[y]∧H l=some (.lst xs)∧xs.length<sizeLine∧Q .non (upd H l (.lst (xs++[y])))
theorem Zc0:MtM X "list.append" Zcz:=by
 intro pins s σ H x vs v us Q I rx rv h
 obtain⟨l,xs,y,rfl,rfl,hH,hz,q⟩:=h
 cases rx
 obtain⟨u,rfl,ru⟩:=rv.one
 obtain⟨z,its,n,r,hl,e⟩:=I.lstM hH
 refine call_meets F.slot_list_append ⟨_,e,rfl⟩ F.entry_list_append (F.args_list_append_2 _ _) (PySem.list_append l its.toArray n u (by rw[List.size_toArray];omega)) ⟨e,?_⟩
 refine⟨.non,_,I.lset (its':=its++[u]) hH e (by simp) (r.append (.cons ru .nil)) ?_,rfl,q⟩
 rw[List.length_append,List.length_singleton]
 omega
noncomputable def Zzc:V→List V→Hp→VK→Prop:=fun x vs H Q=>∃l b xs zs,x= .ref l∧vs=[.ref b]∧H l=some (.lst xs)∧H b=some (.lst zs)∧xs.length+zs.length≤sizeLine∧Q .non (upd H l (.lst (xs++zs)))
noncomputable def rPop:V→List V→Hp→VK→Prop:=fun x vs H Q=>∃l xs y,x= .ref l∧vs=[]∧H l=some (.lst xs)∧xs[xs.length- 1]? =some y∧Q y (upd H l (.lst xs.dropLast))
theorem Zvf:MtM X "list.pop" rPop:=by
 intro pins s σ H x vs v us Q I rx rv h
 obtain⟨l,xs,y,rfl,rfl,hH,hy,q⟩:=h
 cases rx
 have hus:=rv.zero
 subst hus
 obtain⟨z,its,n,r,hl,e⟩:=I.lstM hH
 obtain⟨u,hu,ru⟩:=r.get hy
 have hy':its.toArray[its.toArray.size- 1]? =some u:=by
  show its.toArray[its.length- 1]? =some u
  rw[←Array.getElem?_toList,←hl]
  exact hu
 refine call_meets F.slot_list_pop ⟨_,e,rfl⟩ F.entry_list_pop (F.args_list_pop_1 _) (MeetsSeq.list_pop_last l its.toArray n u hy' (by rw[List.size_toArray];omega)) ⟨e,?_⟩
 refine⟨y,_,I.lset (its':=its.dropLast) hH e ?_ r.dropLast ?_,ru,q⟩
 ·show its.toArray.eraseIdxIfInBounds (its.toArray.size- 1)=its.dropLast.toArray
  rw[List.size_toArray,List.eraseIdxIfInBounds_toArray,Zkz]
 ·rw[List.length_dropLast]
  omega
noncomputable def Z14:V→List V→Hp→VK→Prop:=fun x vs H Q=>∃l xs i k y,x= .ref l∧vs=[.int i]∧H l=some (.lst xs)∧-(2^63)≤i∧i<2^63∧seqIndex? i xs.length=some k∧xs[k]? =some y∧Q y (upd H l (.lst (xs.eraseIdx k)))
noncomputable def Zyt:V→List V→Hp→VK→Prop:=fun x vs H Q=>∃l xs,x= .ref l∧vs=[]∧H l=some (.lst xs)∧Q .non (upd H l (.lst xs.reverse))
noncomputable def Z15:V→List V→Hp→VK→Prop:=fun x vs H Q=>∃l xs,x= .ref l∧vs=[]∧H l=some (.lst xs)∧Q .non (upd H l (.lst []))
noncomputable def rCat:R2:=fun x y H Q=>∃l b xs zs,x= .ref l∧y= .ref b∧H l=some (.lst xs)∧H b=some (.lst zs)∧xs.length+zs.length≤sizeLine∧∀p,H p=none→Q (.ref p) (upd H p (.lst (xs++zs)))
noncomputable def rRep:R2:=fun x y H Q=>∃l k xs,x= .ref l∧y= .int k∧H l=some (.lst xs)∧-(2^63)≤k∧k<2^63∧xs.length*k.toNat≤sizeLine∧
 ∀p,H p=none→Q (.ref p) (upd H p (.lst (List.replicate k.toNat xs).flatten))
theorem Zr7{α:Type}(xs:List α)(k:Nat):(List.replicate k xs).flatten.length=k*xs.length:=by
 induction k with
 |zero=>simp
 |succ k ih=>rw[List.replicate_succ,List.flatten_cons,List.length_append,ih,Nat.succ_mul,Nat.add_comm]
end
section
variable{prog:Program}{w:World}{A:Around}{E:Value→Shared→Prop}{s:Shared}
end
section
variable{X:Cx}
end
end L2
namespace L2
open PySem PySem.Spec PyProof.Rows
section
variable{κ:Type}[DecidableEq κ]
noncomputable def valV(kvs:List (κ×V))(k:κ):Option V:=(kvs.find? fun kv=>decide (kv.1=k)).map (·.2)
noncomputable def putK(kvs:List (κ×V))(k:κ)(v:V):List (κ×V):=
 if(kvs.any fun kv=>decide (kv.1=k))=true then kvs.map (fun kv=>if kv.1=k then(kv.1,v)else kv)else kvs++[(k,v)]
noncomputable def Zr8(kvs:List (κ×V))(k:κ):List (κ×V):=kvs.filter fun kv=>decide (kv.1≠k)
theorem Zyu{k:κ}:valV ([]:List (κ×V)) k=none:=rfl
end
noncomputable abbrev KT(H:Hp):List (List Key×V)→List (List Key×Addr×Value)→Prop:=Paired fun p q=>p.1=q.1∧H q.2.1=some (.tup (p.1.map kV))∧RelV p.2 q.2.2
section
variable{P:Program}{w:World}{H:Hp}{h:Heap}{a:Addr}
end
noncomputable def DGet(H:Hp)(a:Addr)(y:V)(r:Option V):Prop:=
 (∃kvs k,RdK H a kvs∧y=kV k∧r=valV kvs k)∨∃kvs k b,RdT H a kvs∧y= .ref b∧H b=some (.tup (k.map kV))∧r=valV kvs k
noncomputable def DPut(H:Hp)(a:Addr)(y v:V)(R:Hp→Prop):Prop:=
 (∃kvs k,HK H a kvs∧y=kV k∧kvs.length<sizeLine∧∀ep,R (upd H a (.dK (putK kvs k v) ep)))∨
 ∃kvs k b,HTt H a kvs∧y= .ref b∧H b=some (.tup (k.map kV))∧kvs.length<sizeLine∧∀ep ep0 bs,H a=some (.dT kvs ep0 bs)→R (upd H a (.dT (putK kvs k v) ep (putB kvs bs k b)))
section
variable{X:Cx}{pins:List (Addr×Obj)}{σ:St}{H:Hp}{s:Shared}{a:Addr}{y v:V}{u r:Value}{o:Option V}{A:Around}{E:Value→Shared→Prop}
end
section
variable{X:Cx}{pins:List (Addr×Obj)}{σ:St}{H:Hp}{s:Shared}{a:Addr}{kvs:List (Key×V)}{k:Key}{u:Value}{A:Around}{E:Value→Shared→Prop}
end
noncomputable def NoSl(i:Expr):Prop:=∀ov iv,subscripted i false ov iv=operate [ov,iv] (getItem ov iv)
noncomputable def Z3m(td ty:TE):TE:=fun σ H Q=>td σ H fun x H1=>ty σ H1 fun y H2=>∃a v,x= .ref a∧DGet H2 a y (some v)∧Q v H2
noncomputable def tDIn(ty td:TE):TE:=fun σ H Q=>ty σ H fun y H1=>td σ H1 fun x H2=>∃a o,x= .ref a∧DGet H2 a y o∧Q (.bl o.isSome) H2
noncomputable def Zzd(ty td:TE):TE:=fun σ H Q=>ty σ H fun y H1=>td σ H1 fun x H2=>∃a o,x= .ref a∧DGet H2 a y o∧Q (.bl (!o.isSome)) H2
noncomputable def Z3n(td ty tv:TE):TS:=fun D σ H=>tv σ H fun v H1=>td σ H1 fun x H2=>ty σ H2 fun y H3=>∃a,x= .ref a∧DPut H3 a y v (D.nx σ)
noncomputable def Z3o(td ty tv:TE)(rd:V→V→Hp→VK→Prop):TS:=fun D σ H=>td σ H fun x H1=>ty σ H1 fun y H2=>∃a v,x= .ref a∧DGet H2 a y (some v)∧
 tv σ H2 fun y2 H3=>rd v y2 H3 fun z H4=>DPut H4 a y z (D.nx σ)
noncomputable def Z3p(td ty:TE):TS:=fun D σ H=>td σ H fun x H1=>ty σ H1 fun y H2=>∃a kvs k,x= .ref a∧HK H2 a kvs∧y=kV k∧(valV kvs k).isSome=true∧∀ep,D.nx σ (upd H2 a (.dK (Zr8 kvs k) ep))
section
variable{X:Cx}{o i e value:Expr}{pos pos' tpos:Pos}{td ty tv:TE}
end
noncomputable def Z16:TE:=fun _ H Q=>∀p,H p=none→Q (.ref p) (upd H p (.dK [] 0))
noncomputable def Z17:TE:=fun _ H Q=>∀p,H p=none→Q (.ref p) (upd H p (.dT [] 0 []))
section
variable{X:Cx}{pos:Pos}
end
noncomputable def Zjm:List (TE×TE)→St→Hp→(List (V×V)→Hp→Prop)→Prop
  | [],_,H,Q=>Q [] H
  | (tk,tv)::r,σ,H,Q=>tk σ H fun x H1=>tv σ H1 fun y H2=>Zjm r σ H2 fun ps H3=>Q ((x,y)::ps) H3
noncomputable abbrev VV:List (V×V)→List (Value×Value)→Prop:=Paired fun p q=>RelV p.1 q.1∧RelV p.2 q.2
noncomputable def PPs(X:Cx)(pos:Pos)(keys:List (Option Expr))(values:List Expr)(trs:List (TE×TE)):Prop:=
 ∀(pins:List (Addr×Obj)) (s:Shared) (σ:St) (H:Hp) (Q:List (V×V)→Hp→Prop),Inv X pins σ H s→Zjm trs σ H Q→
  wpAny (model X.prog X.w) X.A (evalPairs (pairTrees keys values X.env pos)) (fun vs s'=>∃ps H',Inv X pins σ H' s'∧VV ps vs∧Q ps H') X.xe s
noncomputable def Zql(kvs more:List (Key×V)):List (Key×V):=more.foldl (fun acc kv=>putK acc kv.1 kv.2) kvs
noncomputable def Z3q(trs:List (TE×TE)):TE:=fun σ H Q=>∀p,H p=none→Zjm trs σ (upd H p (.dK [] 0)) fun ps H2=>H2 p=some (.dK [] 0)∧∃kvs:List (Key×V),ps=kvs.map (fun kv=>(kV kv.1,kv.2))∧kvs.length≤15∧∀ep,Q (.ref p) (upd H2 p (.dK (Zql [] kvs) ep))
structure M1(X:Cx)(o:Expr)(m:Str)(apos:Pos)(e:Expr)(cpos:Pos):Prop where
 base:attributeBase o m X.env (eval o X.env)=eval o X.env
 few:((backTo cpos (starEach [e] X.env)).all (fun x=>!x.1)&&(backToKw cpos (keywordEach [] X.env)).all (fun x=>x.1.isSome)
  &&decide (([e]:List Expr).length+([]:List Keyword).length+(if([]:List Keyword).isEmpty then 0 else 1)<30))=true
 line:(apos.endLine==cpos.line)=true
 trees:backTo cpos (starEach [e] X.env)=[(false,eval e X.env)]
structure M2(X:Cx)(o:Expr)(m:Str)(apos:Pos)(e f:Expr)(cpos:Pos):Prop where
 base:attributeBase o m X.env (eval o X.env)=eval o X.env
 few:((backTo cpos (starEach [e,f] X.env)).all (fun x=>!x.1)&&(backToKw cpos (keywordEach [] X.env)).all (fun x=>x.1.isSome)
  &&decide (([e,f]:List Expr).length+([]:List Keyword).length+(if([]:List Keyword).isEmpty then 0 else 1)<30))=true
 line:(apos.endLine==cpos.line)=true
 trees:backTo cpos (starEach [e,f] X.env)=[(false,eval e X.env),(false,eval f X.env)]
noncomputable def IsD(H:Hp)(a:Addr):Prop:=(∃kvs,RdK H a kvs)∨∃kvs,RdT H a kvs
section
variable{X:Cx}{pins:List (Addr×Obj)}{σ:St}{H:Hp}{s:Shared}{a:Addr}{y d:V}{u r:Value}{o:Option V}{A:Around}{E:Value→Shared→Prop}
end
noncomputable def Z18(td ty:TE):TE:=fun σ H Q=>td σ H fun x H1=>∃a,x= .ref a∧IsD H1 a∧ty σ H1 fun y H2=>∃o,DGet H2 a y o∧Q (o.getD .non) H2
noncomputable def Z19(td ty tx:TE):TE:=fun σ H Q=>td σ H fun x H1=>∃a,x= .ref a∧IsD H1 a∧ty σ H1 fun y H2=>tx σ H2 fun z H3=>∃o,DGet H3 a y o∧Q (o.getD z) H3
noncomputable def Z2a(td ty:TE):TE:=fun σ H Q=>td σ H fun x H1=>∃a,x= .ref a∧IsD H1 a∧ty σ H1 fun y H2=>∃kvs k v,HK H2 a kvs∧y=kV k∧valV kvs k=some v∧∀ep,Q v (upd H2 a (.dK (Zr8 kvs k) ep))
noncomputable def Z2b(td ty tx:TE):TE:=fun σ H Q=>td σ H fun x H1=>∃a,x= .ref a∧IsD H1 a∧ty σ H1 fun y H2=>tx σ H2 fun z H3=>∃kvs k,HK H3 a kvs∧y=kV k∧
 (∀v ep,valV kvs k=some v→Q v (upd H3 a (.dK (Zr8 kvs k) ep)))∧(valV kvs k=none→Q z H3)
section
variable{X:Cx}{o e f:Expr}{apos cpos:Pos}{td ty tx:TE}
end
section
variable{X:Cx}{pins:List (Addr×Obj)}{σ:St}{H:Hp}{s:Shared}{a:Addr}{kvs:List (Key×V)}{A:Around}{E:Value→Shared→Prop}
end
section
variable{X:Cx}{pins:List (Addr×Obj)}{σ:St}{H:Hp}{s:Shared}{a:Addr}{y:V}{u:Value}{A:Around}{E:Value→Shared→Prop}
end
end L2
namespace Att
open PySem PySem.W PySem.Calls PyProof.Rows
theorem Zfd{P:Params}{h:Heap}:∀(ns:List Int) (vs:List Value),WellAll P h vs (ns.map WData.int)→IntsAre vs ns:=by
 intro ns
 induction ns with
 |nil=>
  intro vs w
  rw[List.map_nil]at w
  cases w
  exact .nil
 |cons n ns ih=>
  intro vs w
  rw[List.map_cons]at w
  cases w with
  |cons a b=>
   cases a
   exact .cons _ _ (ih _ b)
theorem Zl8{l:OpenLaw}{n:Nat}(hn:l.most=some n){P:Params}{h:Heap}{args:List WData}{vals:List Value}
  (hpre:l.row.toRowW.claim.pre args=true) (hwl:WellAll P h vals args):
  ∃a vs ns,vals=[Value.ref a]∧args=[WData.list (ns.map WData.int)]∧h.get? a=some {cls:=.type "list",data:=.seq vs.toArray}∧IntsAre vs ns∧ns.length≤n:=by
 have hsh:WShape.hasAll [] args [.list .int]=true:=(pre_splitW hpre).1
 have hc:l.pre.holds [] {args:=args}=true:=(pre_splitW hpre).2
 obtain⟨d,r,rfl,h1,h2⟩:=hasAllW_cons hsh
 obtain rfl:=hasAllW_nil h2
 obtain⟨xs,rfl,h3⟩:=hasW_list h1
 obtain⟨ns,rfl⟩:=items_int h3
 have hlen:ns.length≤n:=by
  unfold OpenLaw.pre at hc
  have h4:(WTm.not (.lt (.lit (.int (n:Int))) (.len (.arg 0)))).holds [] {args:=[.list (ns.map .int)]}=true:=by
   have h4:=(holds_andW hc).1
   rw[hn]at h4
   exact h4
  have h5:=condW_of h4 (w_not (w_lt w_lit (w_len_list (w_arg rfl))))
  rw[List.length_map]at h5
  refine Nat.le_of_not_lt fun q=>?_
  have q':(n:Int)<((ns.length:Nat):Int):=by omega
  first
   | (rw[decide_eq_true q']at h5;exact absurd h5 (by decide))
   | (simp at h5;omega)
 cases hwl with
 |cons w1 w2=>
  cases w2
  cases w1 with
  |list ho hall=>exact⟨_,_,ns,rfl,rfl,ho,Zfd ns _ hall,hlen⟩
theorem Zl9(l:OpenLaw)(args:List WData):l.row.toRowW.claim.post args (.bool true) args=true:=
 postW_of (r:=l.row.toRowW) (X:=(true==true))
  (show WShape.has [] (.bool true) .bool=true by first|rfl|decide|simp[WShape.has,WShape.arms,WShape.armsAll])
  (show(WTm.eq .res (.lit (.bool true))).value [] {args:=args,res:=some (.bool true),after:=args}=some (.bool (true==true))from w_eq_bool (w_res rfl) w_lit) rfl
theorem attach_call{l:OpenLaw}{n:Nat}{q:Program}{loose:List Str}{XP:(Str→Option Value)→Heap→Prop}{YP:World→Heap→Prop}{d:DefRec}
  (hn:l.most=some n) (hdf:d.params.defaults=[])
  (call:∀(w:World) (s₀ s₁:Shared) (mg mb:Str→Option Value) (fa:Addr) (o:Obj) (pm cd doc:Value) (a:Addr) (vs:List Value) (ns:List Int),
   Ground q loose [] XP w s₀ mg mb s₁.heap→YP w s₁.heap→
   s₁.heap.get? fa=some o→o.data= .func (docDef d.name d.params d.body d.scope pm cd doc)→s₁.heap.CodeRec cd d.name→mg d.name=some (.ref fa)→
   s₁.heap.get? a=some {cls:=.type "list",data:=.seq vs.toArray}→IntsAre vs ns→ns.length≤n→s₁.gens= #[]→
   codeAny (model l.prog w) callerA (.call (.ref fa) ⟨[.ref a],[]⟩) (fun r s'=>r= .ok (.ret (.bool true))∧OldK s₁.heap s'.heap∧s'.os=s₁.os∧AllBare s'.gens) s₁):
  WalkO q loose XP YP l.row.toRowW d [] (fun f vs=>PySem.call f vs):=by
 intro w s₀ s₁ mg mb G Y fa o pm cd doc dV kV ho hd hcd hD hmg hg args vals as hpre hlay hrd hwl hlo
 obtain rfl:dV= .none:=Dflts.none hD hdf
 obtain rfl:kV= .none:=Dflts.noKw hD
 obtain⟨a,vs,ns,rfl,rfl,hobj,hints,hlen⟩:=Zl8 hn hpre hwl
 refine enter_call (codeAny_mono (call w s₀ s₁ mg mb fa o pm cd doc a vs ns G Y ho (fd_plain hd) hcd hmg hobj hints hlen hg) fun r s' hq=>?_)
 obtain⟨rfl,h2,h3,h4⟩:=hq
 exact⟨.inl ⟨.bool true,.bool true,[],rfl,fun _=>rfl,.bool true,Zl9 l _,fun _=>⟨List.Pairwise.nil,fun _ hm=>(nomatch hm)⟩⟩,h2,h3,h4⟩
section
variable{prog:Program}{w:World}{A:Around}{E:Value→Shared→Prop}{s:Shared}{K:Frag}
noncomputable def Z2c(h:Heap):Heap:={h with objs:= #[]}
noncomputable def Z2d(h:Heap)(L d:Addr):List (Addr×Obj):=(List.range h.objs.size).filterMap fun a=>if a=L∨a=d then none else(h.get? a).map fun o=>(a,o)
end
end Att
namespace L2
open PySem PySem.Spec PyProof.Rows
theorem Zhm:∀{vs:List Value} {ns:List Int},IntsAre vs ns→Vals (ns.map V.int) vs
 |_,_,.nil=>.nil
 |_,_,.cons n t h=>.cons ⟨t,rfl⟩ (Zhm h)
noncomputable def Only(H:Hp):Prop:=∀b,H b=none∨∃o xs,H b=some (.frz o (.lst xs))
theorem Zo1 {P : Program} {w : World} {K : PySem.W.Frag} {mg mb : Str → Option Value} {CX : CXT} {k : Nat} {fa a : Addr} {fd : FuncData} {x : Str} {sp : Sp} {s₁ : Shared} {vs : List Value} {ns : List Int}
    (KX : K.In s₁.heap) (hns : s₁.heap.Ns mainGlobals mg) (hb : s₁.heap.Ns builtinsNs mb) (hbb : ∀ x : Str, x ≠ "__name__" → mb x = bootBuiltins x) (hlim : s₁.heap.NoLimit) (hg : s₁.gens = #[])
    (ha : s₁.heap.get? a = some { cls := .type "list", data := .seq vs.toArray }) (hi : IntsAre vs ns) (hl : ns.length ≤ sizeLine) (hr : Room k callerA)
    (F : ∀ base : Heap, K.In base → base.Ns mainGlobals mg → FnOk P w K mg base CX k fa fd [x] sp) (hbind : ∀ (s : Shared) (u : Value), BindsTo s fd ⟨[u], []⟩ [(x, u)])
    (hsp : ∀ H : Hp, Only H → SqL K H a (ns.map V.int) → sp [.ref a] H (fun v _ => v = .bl true) fun _ _ _ => False)
    (hCX : ∀ H e s', CX [] H s₁ (fun _ _ _ => False) e s' → False) :
    codeAny (model P w) callerA (.call (.ref fa) ⟨[.ref a], []⟩) (fun r s' => r = .ok (.ret (.bool true)) ∧ OldK s₁.heap s'.heap ∧ s'.os = s₁.os ∧ AllBare s'.gens) s₁ := by
  have rv := Zhm hi
  have lenV := hi.length
  -- from an abstract heap in which nothing but the script may be tracked
  have core : ∀ H : Hp, Only H → SqL K H a (ns.map V.int) → HOk P w H s₁.heap → (∀ b, H b ≠ none → b = a) → (H a ≠ none → K.lookup a = none) →
      codeAny (model P w) callerA (.call (.ref fa) ⟨[.ref a], []⟩) (fun r s' => r = .ok (.ret (.bool true)) ∧ OldK s₁.heap s'.heap ∧ s'.os = s₁.os ∧ AllBare s'.gens) s₁ := by
    intro H hO hS hok hA hK
    have base_of : ∀ {b : Addr} {o : Obj}, s₁.heap.get? b = some o → H b = none → (hidT s₁.heap H).get? b = some o := fun e n => Zor e n
    have noA : ∀ {b : Addr} {o : Obj} {es : Array DictEntry} {ep : Nat}, s₁.heap.get? b = some o → o.data = .dict es ep → H b = none := fun {b o es ep} e d => by
      cases q : H b with
      | none => rfl
      | some u =>
        have e' : b = a := hA b (by rw [q]; simp)
        subst e'
        rw [ha] at e; cases e
        have d' : Data.seq vs.toArray _ = Data.dict es ep := d
        cases d'
    have nsK : ∀ {b : Addr} {m : Str → Option Value}, s₁.heap.Ns b m → (hidT s₁.heap H).Ns b m := fun {b m} ⟨o, es, ep, e, d, r⟩ => ⟨o, es, ep, base_of e (noA e d), d, r⟩
    have hKb : K.In (hidT s₁.heap H) := fun b o e => base_of (KX b o e) (by
      cases q : H b with
      | none => rfl
      | some u =>
        have e' : b = a := hA b (by rw [q]; simp)
        subst e'
        rw [hK (by rw [q]; simp)] at e; cases e)
    have hM : Mod K mg (hidT s₁.heap H) := ⟨hKb, nsK hns, ⟨mb, nsK hb, hbb⟩, let ⟨mc, h1, h2⟩ := hlim; ⟨mc, nsK h1, h2⟩⟩
    have e0 : Env0 P w K mg (hidT s₁.heap H) callerA [] s₁ H := ⟨rfl, hM, fun b o e => Zrr e, Nat.le_of_eq (Zlq _ _), trivial, fun b hb => absurd (show b ∈ ([] : List Addr) from hb) (by simp), hok, .of_eq hg⟩
    refine codeAny_mono ((F _ hKb (nsK hns)).run callerA [] s₁ H ⟨[.ref a], []⟩ [.ref a] [.ref a] _ _ hr e0 (hbind s₁ (.ref a)) (.cons rfl .nil) (hsp H hO hS)) fun r s' h => ?_
    cases r with
    | error e => exact (hCX H e s' h).elim
    | ok fl =>
      cases fl with
      | next => exact False.elim h
      | brk => exact False.elim h
      | cont => exact False.elim h
      | ret u =>
        obtain ⟨v, H', os, bare, un, hok', r', q⟩ := h
        have q' : v = .bl true := q
        subst q'
        obtain rfl : u = Value.bool true := r'
        refine ⟨rfl, OldK.of_keep fun b o e => ?_, os, bare⟩
        cases q : H b with
        | none => exact un.keep b o e q (by intro z; exact absurd (show b ∈ ([] : List Addr) from z) (by simp)) (by simp)
        | some u =>
          rcases hO b with z | ⟨ob, xs, z⟩
          · rw [q] at z; cases z
          · have z2 := un.frzs b ob _ z
            obtain ⟨e1, _⟩ := hok b _ z
            obtain ⟨e2, _⟩ := hok' b _ z2
            rw [e] at e1; cases e1
            exact e2
  cases hk : K.lookup a with
  | some o =>
    -- the script is one of the module's own objects
    have e := KX a o hk
    rw [ha] at e
    cases e
    refine core (fun _ => none) (fun _ => .inl rfl) (.inr ⟨_, vs.toArray, _, hk, rfl, rfl, rfl, by rw [List.size_toArray, lenV]; exact hl, by simpa using rv⟩) (fun b u z => by have z' : (none : Option HO) = some u := z; cases z') (fun b z => absurd rfl z) fun z => absurd rfl z
  | none =>
    refine core (fun b => if b = a then some (.frz { cls := .type "list", data := .seq vs.toArray } (.lst (ns.map V.int))) else none) (fun b => ?_) (.inl (.inr ⟨{ cls := .type "list", data := .seq vs.toArray }, if_pos rfl⟩)) (fun b u z => ?_) (fun b z => ?_) fun _ => hk
    · by_cases hb : b = a
      · exact .inr ⟨_, _, if_pos hb⟩
      · exact .inl (if_neg hb)
    · by_cases hb : b = a
      · have z' := (if_pos hb).symm.trans z
        cases z'
        subst hb
        exact ⟨ha, by rw [List.length_map]; exact hl, vs, _, rv, ha⟩
      · have z' := (if_neg hb).symm.trans z
        cases z'
    · by_cases hb : b = a
      · exact hb
      · exact absurd (if_neg hb) z
end L2
namespace L2
open PySem PySem.Spec PyProof.Rows
noncomputable abbrev KOf{K:PySem.W.Frag}{h:Heap}(_:K.In h):PySem.W.Frag:=K
theorem Zr9{l:PySem.W.OpenLaw}{n k:Nat}{q:Program}{loose:List Str}{XP:(Str→Option Value)→Heap→Prop}{YP:World→Heap→Prop}{d:DefRec}{K:Params→PySem.W.Frag}{CX:World→CXT}{sp:World→Sp}{x:Str}
  (hn:l.most=some n) (hn2:n≤sizeLine) (hdf:d.params.defaults=[]) (hr:Room k callerA)
  (hY:∀(w:World) (h:Heap),YP w h→(K w.params).In h)
  (F:∀(w:World) (mg:Str→Option Value) (fa:Addr) (h:Heap),(K w.params).In h→h.Ns mainGlobals mg→mg d.name=some (.ref fa)→
   ∃fd:FuncData,(∀(s:Shared) (u:Value),BindsTo s fd ⟨[u],[]⟩ [(x,u)])∧
    ∀base:Heap,(K w.params).In base→base.Ns mainGlobals mg→FnOk l.prog w (K w.params) mg base (CX w) k fa fd [x] (sp w))
  (hsp:∀(w:World) (H:Hp) (a:Addr) (ns:List Int),ns.length≤n→Only H→SqL (K w.params) H a (ns.map V.int)→sp w [.ref a] H (fun v _=>v= .bl true) fun _ _ _=>False)
  (hCX:∀(w:World) (H:Hp) (s:Shared) (e:Value) (s':Shared),CX w [] H s (fun _ _ _=>False) e s'→False):
  PySem.W.WalkO q loose XP YP l.row.toRowW d [] (fun f vs=>PySem.call f vs):=by
 refine Att.attach_call hn hdf fun w s₀ s₁ mg mb fa o pm cd doc a vs ns G Y ho hd hcd hmg hobj hints hlen hg=>?_
 have KX:=hY w _ Y
 obtain⟨fd,hb,hF⟩:=F w mg fa _ KX G.T.g hmg
 exact Zo1 KX G.T.g G.T.b G.T.builtins G.T.nolimit hg hobj hints (Nat.le_trans hlen hn2) hr hF hb (fun H hO hS=>hsp w H a ns hlen hO hS) fun H e s'=>hCX w H s₁ e s'
theorem Zo2{l:PySem.W.OpenLaw}{n k:Nat}{q:Program}{loose:List Str}{XP:(Str→Option Value)→Heap→Prop}{YP:World→Heap→Prop}{d:DefRec}{K:Params→PySem.W.Frag}{CX:CXT}{sp:PySem.W.Frag→Sp}{x:Str}
  (hn:l.most=some n) (hn2:n≤sizeLine) (hdf:d.params.defaults=[]) (hr:Room k callerA)
  (hY:∀(w:World) (h:Heap),YP w h→(K w.params).In h)
  (F:∀(w:World) (mg:Str→Option Value) (fa:Addr) (h:Heap),(K w.params).In h→h.Ns mainGlobals mg→mg d.name=some (.ref fa)→
   ∃fd:FuncData,(∀(s:Shared) (u:Value),BindsTo s fd ⟨[u],[]⟩ [(x,u)])∧
    ∀base:Heap,(K w.params).In base→base.Ns mainGlobals mg→FnOk l.prog w (K w.params) mg base CX k fa fd [x] (sp (K w.params)))
  (hsp:∀(K:PySem.W.Frag) (H:Hp) (a:Addr) (ns:List Int),ns.length≤n→Only H→SqL K H a (ns.map V.int)→sp K [.ref a] H (fun v _=>v= .bl true) fun _ _ _=>False)
  (hCX:∀(H:Hp) (s:Shared) (e:Value) (s':Shared),CX [] H s (fun _ _ _=>False) e s'→False):
  PySem.W.WalkO q loose XP YP l.row.toRowW d [] (fun f vs=>PySem.call f vs):=
 Zr9 (K:=K) (CX:=fun _=>CX) (sp:=fun w=>sp (K w.params)) hn hn2 hdf hr hY F (fun w H a ns h1 h2 h3=>hsp (K w.params) H a ns h1 h2 h3) fun _ H s e s'=>hCX H s e s'
end L2
namespace L2
open PySem PySem.Spec PyProof.Rows
noncomputable def Zze(s:Stmt)(j:Nat):Stmt:=match s with
 | .ClassDef _ _ _ body _ _ _ _ _ _ _=>body.getD j (.Pass ⟨0,0,0,0⟩)
 |_=>.Pass ⟨0,0,0,0⟩
noncomputable def Zef(s:Stmt):Arguments:=match s with
 | .FunctionDef _ a _ _ _ _ _ _ _ _=>a
 |_=>{posonlyargs:=[],args:=[],vararg:=none,kwonlyargs:=[],kw_defaults:=[],kwarg:=none,defaults:=[]}
noncomputable def Zbs(s:Stmt):List Stmt:=match s with
 | .FunctionDef _ _ b _ _ _ _ _ _ _=>b
 |_=>[]
noncomputable def Zi(s:Stmt):Scope:=match s with
 | .FunctionDef _ _ _ _ _ _ sc _ _ _=>sc
 |_=>{kind:=.function,names:=[],isGenerator:=false,isCoroutine:=false}
noncomputable abbrev CX0:CXT:=fun _ _ _ _ _ _=>False
noncomputable abbrev E0:XK:=fun _ _ _=>False
theorem Zzf{X:Cx}:Zjk CX0 X E0:=fun _ _ _ _ _ _ _ h=>h.elim
structure Fun(K:PySem.W.Frag)(x qual:Str)(st:Stmt)(f:Addr)(fd:FuncData):Prop where
 ex:∃(oc:Value) (od:Option Addr) (kV doc pm:Value) (an:Option Addr) (cdv ct:Value) (osl:Array (Option Value)),
  fd=PySem.W.fnOf x qual (Zef st) (Zbs st) (Zi st) .none kV doc pm an cdv ct∧K.lookup f=some ⟨oc,od,.func fd,osl⟩∧PySem.W.codeIn K cdv qual=true
 kp:PySem.W.keepIn K (.ref f)=true
section
variable{P:Program}{w:World}{K:PySem.W.Frag}{mg:Str→Option Value}{base:Heap}
theorem Fun.ok{x qual:Str}{st:Stmt}{f:Addr}{fd:FuncData}{N ps:List Str}{k:Nat}{sp:Sp}(F:Fun K x qual st f fd)(S:FnScope N ps (Zi st))(len:∀vs H Q E,sp vs H Q E→vs.length=ps.length)
  (hbody:∀(cdv:Value) (A:Around) (outer:List Env) (s:Shared) (H:Hp) (vs:List V) (Q:VK) (E:XK),Room k (A.deeper (envOfC qual (Zi st) s.heap.objs.size f cdv))→sp vs H Q E→
   ∃t,PSs (cxOf CX0 P w K mg base N qual (Zi st) f cdv A outer s H E).nox (Zbs st) t∧t {nx:=fun _ H'=>Q .non H',rt:=Q} (start N vs) H):FnOk P w K mg base CX0 (k+1) f fd ps sp:=by
 obtain⟨oc,od,kV,doc,pm,an,cdv,ct,osl,rfl,lk,hcd⟩:=F.ex
 refine Zu9 lk hcd S len fun A outer s H vs Q E hr hsp=>?_
 obtain⟨t,h,q⟩:=hbody cdv A outer s H vs Q E hr hsp
 exact⟨t,h.nox,q⟩
theorem Fun.binds{x qual:Str}{st:Stmt}{f:Addr}{fd:FuncData}{ps:List Str}(F:Fun K x qual st f fd)
  (h:∀(kV doc pm:Value) (an:Option Addr) (cdv ct:Value) (us:List Value),us.length=ps.length→bindArgs (PySem.W.fnOf x qual (Zef st) (Zbs st) (Zi st) .none kV doc pm an cdv ct) ⟨us,[]⟩=pure (ps.zip us)):Zat K fd ps []:=by
 obtain⟨oc,od,kV,doc,pm,an,cdv,ct,osl,rfl,lk,hcd⟩:=F.ex
 exact .all (h kV doc pm an cdv ct)
theorem Zbc{x qual:Str}{st:Stmt}{f:Addr}{oc:Value}{od an:Option Addr}{osl:Array (Option Value)}{kV doc pm cdv ct:Value}(l:K.lookup f=some ⟨oc,od,.func (PySem.W.fnOf x qual (Zef st) (Zbs st) (Zi st) .none kV doc pm an cdv ct),osl⟩)
  (c:PySem.W.codeIn K cdv qual=true) (k:PySem.W.keepIn K (.ref f)=true):Fun K x qual st f (PySem.W.fnOf x qual (Zef st) (Zbs st) (Zi st) .none kV doc pm an cdv ct):=⟨⟨oc,od,kV,doc,pm,an,cdv,ct,osl,rfl,l,c⟩,k⟩
end
theorem Zsa{A:Around}{k:Nat}(hr:Room k A):A.units+1<cLine:=Nat.lt_of_le_of_lt (Nat.add_le_add_left (by decide:1≤64) _) hr.units
theorem Zma{n:Nat}(h:n≤1000):n<sizeLine:=Nat.lt_of_le_of_lt h (by decide)
section
variable{X:Cx}
end
noncomputable def Same(H H':Hp):Prop:=∀b o,H b=some o→H' b=some o
theorem Same.refl(H:Hp):Same H H:=fun _ _ h=>h
theorem Same.trans{H H1 H2:Hp}(a:Same H H1)(b:Same H1 H2):Same H H2:=fun c o h=>b c o (a c o h)
theorem Same.free{H H':Hp}(e:Same H H'){l:Addr}(h:H' l=Option.none):H l=Option.none:=by
 cases q:H l with
 |none=>rfl
 |some o=>
  rw[e l o q]at h
  cases h
section
variable{κ:Type}[DecidableEq κ]
end
end L2
namespace L2
open PySem PySem.Spec PyProof.Rows
theorem PE.imp{X:Cx}{e:Expr}{t t':TE}(h:PE X e t)(w:∀σ H Q,t' σ H Q→t σ H Q):PE X e t':=fun pins s σ H Q I q=>h pins s σ H Q I (w σ H Q q)
theorem PT.imp{X:Cx}{e:Expr}{t t':TT}(h:PT X e t)(w:∀σ H Q,t' σ H Q→t σ H Q):PT X e t':=fun pins s σ H Q I q=>h pins s σ H Q I (w σ H Q q)
theorem PW.imp{X:Cx}{e:Expr}{t t':TT}(h:PW X e t)(w:∀σ H Q,t' σ H Q→t σ H Q):PW X e t':=fun wh pins s σ H Q I q=>h wh pins s σ H Q I (w σ H Q q)
theorem PA.imp{X:Cx}{e:List Expr}{t t':TA}(h:PA X e t)(w:∀σ H Q,t' σ H Q→t σ H Q):PA X e t':=fun pos pins s σ H Q I q=>h pos pins s σ H Q I (w σ H Q q)
theorem PS.imp{X:Cx}{e:Stmt}{t t':TS}(h:PS X e t)(w:∀D σ H,t' D σ H→t D σ H):PS X e t':=fun pins s σ H D I q=>h pins s σ H D I (w D σ H q)
theorem PSs.imp{X:Cx}{e:List Stmt}{t t':TS}(h:PSs X e t)(w:∀D σ H,t' D σ H→t D σ H):PSs X e t':=fun pins s σ H D I q=>h pins s σ H D I (w D σ H q)
theorem PG.imp{X:Cx}{e:Expr}{t t':TG}(h:PG X e t)(w:∀v σ H Q,t' v σ H Q→t v σ H Q):PG X e t':=fun pins s σ H v u Q I r q=>h pins s σ H v u Q I r (w v σ H Q q)
theorem PI.imp{X:Cx}{tg e:Expr}{t t':TI}(h:PI X tg e t)(w:∀σ H R,t' σ H R→t σ H R):PI X tg e t':=fun pins s σ H R I q=>h pins s σ H R I (w σ H R q)
noncomputable def clOf(cells:List (Str×Addr)):List (Str×NameKind)→List (Str×Addr)→List (Str×Addr)
 | [],cs=>cs
 | (n,k)::r,cs=>clOf cells r (if k= .free then(n,(cells.lookup n).getD 0)::cs else cs)
theorem Zeg{env:Env}:∀(names:List (Str×NameKind)) (cs:List (Str×Addr)),(∀y∈names,y.2= .free→∃c,env.cells.lookup y.1=some c)→
    (forIn names cs (fun x r=>if(x.2==NameKind.free)=true then do let a←cellOf env x.1;pure (ForInStep.yield ((x.1,a)::r))else pure (ForInStep.yield r)):Sem (List (Str×Addr)))=pure (clOf env.cells names cs)
  | [],cs,_=>by rw[List.forIn_nil];rfl
  | (n,k)::r,cs,h=>by
    rw[List.forIn_cons]
    by_cases hk:k= .free
    · obtain⟨c,hc⟩:=h (n,k) List.mem_cons_self hk
      subst hk
      have e1:cellOf env n=pure c:=by unfold cellOf;rw[hc]
      show((if(NameKind.free==NameKind.free)=true then(cellOf env n >>=fun a=>pure (ForInStep.yield ((n,a)::cs)))else pure (ForInStep.yield cs)) >>=fun s=>_)=_
      rw[if_pos (show(NameKind.free==NameKind.free)=true by decide),e1]
      show(forIn r ((n,c)::cs) _:Sem (List (Str×Addr)))=_
      rw[Zeg r _ fun y hy=>h y (List.mem_cons_of_mem _ hy)]
      show _=pure (clOf env.cells r (if NameKind.free=NameKind.free then(n,(env.cells.lookup n).getD 0)::cs else cs))
      rw[if_pos rfl,hc]
      rfl
    · have hb:(k==NameKind.free)=false:=by simpa using hk
      show((if(k==NameKind.free)=true then(cellOf env n >>=fun a=>pure (ForInStep.yield ((n,a)::cs)))else pure (ForInStep.yield cs)) >>=fun s=>_)=_
      rw[hb,if_neg Bool.false_ne_true]
      show(forIn r cs _:Sem (List (Str×Addr)))=_
      rw[Zeg r _ fun y hy=>h y (List.mem_cons_of_mem _ hy)]
      show _=pure (clOf env.cells r (if k=NameKind.free then _ else cs))
      rw[if_neg hk]
theorem Zgh{scope:Scope}{env:Env}(h:∀y∈scope.names,y.2= .free→∃c,env.cells.lookup y.1=some c):closureFor scope env=pure (clOf env.cells scope.names []):=by
 simp only[closureFor]
 rw[Zeg scope.names [] h]
 rfl
theorem Zjn{cells:List (Str×Addr)}{x:Str}{c:Addr}:∀{names:List (Str×NameKind)} {cs:List (Str×Addr)},(∀y∈names,y.2= .free→∃c,cells.lookup y.1=some c)→
    (cs.lookup x=some c→cells.lookup x=some c)→(clOf cells names cs).lookup x=some c→cells.lookup x=some c
  | [],_,_,h0,e=>h0 e
  | (n,k)::r,cs,h,h0,e=>by
    refine Zjn (names:=r) (fun y hy=>h y (List.mem_cons_of_mem _ hy)) ?_ e
    intro e'
    by_cases hk:k= .free
    · rw[if_pos hk]at e'
      obtain⟨c',hc⟩:=h (n,k) List.mem_cons_self hk
      rw[hc]at e'
      by_cases hx:x==n
      · simp only[List.lookup_cons,hx]at e'
        cases e'
        have:x=n:=by simpa using hx
        rw[this];exact hc
      · have hx':(x==n)=false:=by simpa using hx
        simp only[List.lookup_cons,hx']at e'
        exact h0 e'
    · rw[if_neg hk]at e';exact h0 e'
theorem Zhn{cells:List (Str×Addr)}{x:Str}:∀{names:List (Str×NameKind)} {cs:List (Str×Addr)},(∃c,cs.lookup x=some c)→∃c,(clOf cells names cs).lookup x=some c
  | [],_,h=>h
  | (n,k)::r,cs,⟨c,h⟩=>by
    refine Zhn (names:=r) ?_
    by_cases hk:k= .free
    · rw[if_pos hk]
      by_cases hx:x==n
      · exact⟨(cells.lookup n).getD 0,by simp only[List.lookup_cons,hx]⟩
      · have hx':(x==n)=false:=by simpa using hx
        exact⟨c,by simp only[List.lookup_cons,hx'];exact h⟩
    · rw[if_neg hk];exact⟨c,h⟩
theorem Ze7{cells:List (Str×Addr)}{x:Str}:∀{names:List (Str×NameKind)} {cs:List (Str×Addr)},(x,NameKind.free)∈names→∃c,(clOf cells names cs).lookup x=some c
  | [],_,h=>nomatch h
  | (n,k)::r,cs,h=>by
    rcases List.mem_cons.mp h with e|e
    · cases e
      refine Zhn (names:=r) ⟨(cells.lookup x).getD 0,?_⟩
      rw[if_pos rfl]
      simp[List.lookup_cons]
    · exact Ze7 (names:=r) e
noncomputable def rlF(env:Env):Str×NameKind→Str×NameKind:=fun(n,k)=>if(k==NameKind.free&&env.scope.kind== .function&&env.kindOf n==some .cell)then(n,NameKind.cell)else(n,k)
theorem Ziv(env:Env)(p:Str×NameKind):(rlF env p).1=p.1:=by
 obtain⟨n,k⟩:=p
 unfold rlF
 dsimp only
 split<;> rfl
theorem Zcg{f:Str×NameKind→Str×NameKind}(h:∀p,(f p).1=p.1)(x:Str):∀names:List (Str×NameKind),(names.map f).lookup x=(names.lookup x).map fun k=>(f (x,k)).2
  | []=>rfl
  | (n,k)::r=>by
    have ih:=Zcg h x r
    have e:f (n,k)=(n,(f (n,k)).2):=Prod.ext (h (n,k)) rfl
    rw[List.map_cons,e,List.lookup_cons,List.lookup_cons]
    cases hx:x==n with
    |true=>
      have:x=n:=by simpa using hx
      subst this
      rfl
    |false=>exact ih
theorem Zf7{x:Str}{k:NameKind}:∀{names:List (Str×NameKind)},names.lookup x=some k→(x,k)∈names
  | [],h=>by simp at h
  | (n,k')::r,h=>by
    rw[List.lookup_cons]at h
    cases hx:x==n with
    |true=>
      rw[hx]at h
      have:x=n:=by simpa using hx
      subst this
      cases h
      exact List.mem_cons_self
    |false=>rw[hx]at h;exact List.mem_cons_of_mem _ (Zf7 h)
theorem Zc1{env:Env}{names:List (Str×NameKind)}{x:Str}{kk:NameKind}(hn:∀y∈names,y.2≠.cell)(hk:kk= .cell∨kk= .free)(h:(names.map (rlF env)).lookup x=some kk):(x,NameKind.free)∈names:=by
 rw[Zcg (Ziv env)]at h
 obtain⟨k,h1,h2⟩:=Option.map_eq_some_iff.mp h
 have hm:=Zf7 h1
 have hc:k≠.cell:=hn _ hm
 by_cases hf:k= .free
 ·subst hf;exact hm
 ·exfalso
  have hb:(k==NameKind.free)=false:=by simpa using hf
  unfold rlF at h2
  simp only[hb,Bool.false_and,Bool.false_eq_true,if_false]at h2
  rcases hk with e|e
  ·exact hc (h2.trans e)
  ·exact hf (h2.trans e)
inductive BSrc where
 |own|cap (j:Nat)|acc
noncomputable def Zvg(σ:St)(acc:Addr):BSrc→Option V
 | .own=>none
 | .cap j=>(σ[j]?).join
 | .acc=>some (.ref acc)
noncomputable def bSt(src:List BSrc)(σ:St)(acc:Addr):St:=src.map (Zvg σ acc)
noncomputable abbrev Cx.block(X:Cx)(N':List Str)(scope:Scope)(C:Addr)(s₀:Shared)(H₀:Hp)(ex:List Addr):Cx:=
 {X with N:=N',env:=compEnvC scope (clOf X.env.cells scope.names []) C X.env,s₀:=s₀,H₀:=H₀,outer:=X.stack,stack:=X.stack,ex:=ex,fn:=fun _=>false,pn:=[],xe:=fun _ _=>False}
structure CompScope(X:Cx)(N':List Str)(scope:Scope)(src:List BSrc):Prop where
 kind:scope.kind= .function
 nocell:∀y∈scope.names,y.2≠.cell
 names:∀y∈scope.names,y.2= .local→scope.names.lookup y.1=some .local
 free:∀y∈scope.names,y.2= .free→X.env.kindOf y.1=some .cell∨X.env.kindOf y.1=some .free
 len:src.length=N'.length
 cap:∀(k j:Nat) (x:Str),src[k]? =some (.cap j)→N'[k]? =some x→X.N[j]? =some x∧(X.env.kindOf x=some .cell∨X.env.kindOf x=some .free)∧scope.names.lookup x=some .free
 acc:∀(k:Nat) (x:Str),src[k]? =some .acc→N'[k]? =some x→scope.names.lookup x=none
theorem Zdo{env:Env}{names:List (Str×NameKind)}{x:Str}(h:names.lookup x=none):(names.map (rlF env)).lookup x=none:=by
 rw[Zcg (Ziv env),h];rfl
theorem Zdp{env:Env}{names:List (Str×NameKind)}{x:Str}(h:names.lookup x=some .free):(names.map (rlF env)).lookup x=some .cell∨(names.map (rlF env)).lookup x=some .free:=by
 rw[Zcg (Ziv env),h]
 unfold rlF
 dsimp only[Option.map]
 split
 ·exact .inl rfl
 ·exact .inr rfl
section
variable{X:Cx}{N':List Str}{scope:Scope}{src:List BSrc}{pins:List (Addr×Obj)}{σ:St}{H:Hp}{s:Shared}{C acc:Addr}{fp:List Addr}
theorem Ziw{h1:Heap}{tk:Nat}(S:CompScope X N' scope src)(I:Inv X pins σ H s)(hC:C=s.heap.objs.size)(hf:∀b∈fp,FpOk X pins H b)(hfo:∀b∈fp,∃o,s.heap.get? b=some o)
  (hns:h1.Ns C fun _=>none) (hk:∀b o,s.heap.get? b=some o→h1.get? b=some o):
  Inv (X.block N' scope C s H fp) [] (bSt src σ acc) H {s with heap:=h1,toks:=tk}:=by
 have cellf:∀y∈scope.names,y.2= .free→∃c,X.env.cells.lookup y.1=some c:=fun y hy e=>I.ok.has y.1 (S.free y hy e)
 have sub:∀x c,(clOf X.env.cells scope.names []).lookup x=some c→X.env.cells.lookup x=some c:=fun x c e=>Zjn cellf (fun h=>by simp at h) e
 have gt:∀b,b<s.heap.objs.size→b≠C:=fun b hb e=>by rw[e,hC]at hb;exact Nat.lt_irrefl _ hb
 refine⟨⟨I.ok.mod,S.kind,I.ok.glob,I.ok.blt,by rw[hC];exact Nat.le_refl _,fun x y c h1 h2=>I.ok.inj x y c (sub x c h1) (sub y c h2),fun x hx=>?_,fun x c h=>absurd h Bool.false_ne_true,I.ok.hd,I.ok.frames,.inl rfl,fun b hb=>?_,I.bs,
  Nat.le_trans I.ok.bsz I.sz,fun b o e hb=>?_,fun b hb hs=>?_,I.stack,I.stkFree⟩,rfl,I.bare,Un.kept hk,⟨_,hns,fun i x v e1 e2 e3=>?_⟩,fun x c e=>?_,?_,fun x c e=>I.freeC x c (sub x c e),fun p hp=>?_,I.hok.kept hk,?_⟩
 ·rcases hx with hx|hx
  ·exact Ze7 (Zc1 S.nocell (.inl rfl) hx)
  ·exact Ze7 (Zc1 S.nocell (.inr rfl) hx)
 ·obtain⟨f0,f1,f2,f3,f4,f5⟩:=hf b hb
  refine⟨?_,fun x c e=>f4 x c (sub x c e)⟩
  show b≠C
  obtain⟨o,ho⟩:=hfo b hb
  exact gt b (Heap.lt_size ho)
 ·obtain⟨f0,f1,f2,f3,f4,f5⟩:=hf b hb
  rcases f3 with z|z
  ·exact I.ok.noex b o e z
  ·exact absurd (Nat.lt_of_lt_of_le (Heap.lt_size e) (Nat.le_trans I.ok.bsz z)) (Nat.lt_irrefl _)
 ·obtain⟨f0,f1,f2,f3,f4,f5⟩:=hf b hb
  rcases List.mem_cons.mp (I.stkSub b hs)with z|z
  ·exact f1 z
  ·exact f2 z
 ·have hsrc:∃q,src[i]? =some q:=by
   cases q:src[i]? with
   |some q0=>exact⟨q0,rfl⟩
   |none=>
    have e2':(bSt src σ acc)[i]? =some (some v):=e2
    unfold bSt at e2'
    rw[List.getElem?_map,q]at e2';cases e2'
  obtain⟨q,hq⟩:=hsrc
  have e2':(bSt src σ acc)[i]? =some (some v):=e2
  unfold bSt at e2'
  rw[List.getElem?_map,hq]at e2'
  have e2'':Zvg σ acc q=some v:=Option.some.inj e2'
  cases q with
  |own=>cases e2''
  |acc=>
   exfalso
   have hno:=Zdo (env:=X.env) (S.acc i x hq e1)
   have hno':(relabel scope X.env).names.lookup x=none:=hno
   have e3':Vis (relabel scope X.env) x:=e3
   rcases e3' with z|z|z
   ·rw[hno']at z;cases z
   ·rw[hno']at z;cases z
   ·rw[hno']at z;cases z
  |cap j=>
   obtain⟨hj,hkind,hfr⟩:=S.cap i j x hq e1
   have hσ:σ[j]? =some (some v):=by
    have e4:(σ[j]?).join=some v:=e2''
    cases r:σ[j]? with
    |none=>rw[r]at e4;cases e4
    |some o=>rw[r]at e4;cases o with
     |none=>cases e4
     |some w'=>cases e4;rfl
   obtain⟨m,hn,hl⟩:=I.loc
   obtain⟨u,ru,l⟩:=hl j x v hj hσ (by rcases hkind with z|z;exact .inr (.inl z);exact .inr (.inr z))
   refine⟨u,ru,?_⟩
   rcases l with⟨z,_⟩|⟨_,c,hc,hcell⟩
   ·rcases hkind with y|y
    ·rw[y]at z;cases z
    ·rw[y]at z;cases z
   ·have e3':Vis (relabel scope X.env) x:=e3
    have fin:∀kk,kk= .cell∨kk= .free→(relabel scope X.env).names.lookup x=some kk→Look (X.block N' scope C s H fp).env h1 (fun _=>none) x u:=fun kk hkk hx=>by
     obtain⟨c',hc'⟩:=Ze7 (cells:=X.env.cells) (cs:=[]) (Zc1 S.nocell hkk hx)
     have:=sub x c' hc'
     rw[hc]at this;cases this
     obtain⟨oc,hoc,hocd⟩:=hcell
     refine .inr ⟨?_,c,hc',oc,hk c oc hoc,hocd⟩
     rcases hkk with y|y
     ·subst y;exact .inl hx
     ·subst y;exact .inr hx
    rcases e3' with z|z|z
    ·exfalso
     have z':(relabel scope X.env).names.lookup x=some .local:=z
     rcases Zdp (env:=X.env) hfr with y|y
     ·have y':(relabel scope X.env).names.lookup x=some .cell:=y
      rw[z']at y';cases y'
     ·have y':(relabel scope X.env).names.lookup x=some .free:=y
      rw[z']at y';cases y'
    ·exact fin .cell (.inl rfl) z
    ·exact fin .free (.inr rfl) z
 ·obtain⟨v,oc,hoc,hocd⟩:=I.cell x c (sub x c e)
  exact⟨v,oc,hk c oc hoc,hocd⟩
 ·show H C=none
  rw[hC];exact I.hok.fresh (Nat.le_refl _)
 ·have hp':p∈([]:List (Addr×Obj)):=by simpa using hp
  exact nomatch hp'
 ·show(bSt src σ acc).length=N'.length
  unfold bSt
  rw[List.length_map];exact S.len
noncomputable def Zvh(src:List BSrc)(wi:TI)(g:TG)(tt:TT)(te:TE):TE:=fun σ H Q=>wi σ H fun J H1=>∀acc,H1 acc=none→
 ∃W:Nat→Nat→St→Hp→Prop,(∃m,W 0 m (bSt src σ acc) (upd H1 acc (.lst [])))∧∀i m σ' H,W i m σ' H→(J.stop i H∧Q (.ref acc) H)∨
  (J.go i H∧∀x H',J.yld i H x H'→g x σ' H' fun σ2 H2=>tt σ2 H2 fun b H3=>if b=true then te σ2 H3 fun y H4=>Zcz (.ref acc) [y] H4 fun _ H5=>∃m',m'<m∧W (i+1) m' σ2 H5 else∃m',m'<m∧W (i+1) m' σ2 H3)
noncomputable def PTs(X:Cx)(ifs:List Expr)(t:TT):Prop:=
 ∀(pins:List (Addr×Obj)) (s:Shared) (σ:St) (H:Hp) (Q:Bool→Hp→Prop),Inv X pins σ H s→t σ H Q→
  wpAny (model X.prog X.w) X.A (forIn ifs true fun c r=>if r=true then do let ok←isTrue c X.env (eval c X.env);pure (ForInStep.yield ok)else pure (ForInStep.yield r)) (TP X pins σ Q) X.xe s
noncomputable def Zzg:TT:=fun _ H Q=>Q true H
theorem Zsb:PTs X [] Zzg:=fun _ s σ H Q I h=>wpAny_tests_nil ⟨H,I,h⟩
theorem Zmb{prog:Program}{w:World}{A:Around}{s:Shared}{elt target iter:Expr}{ifs:List Expr}{scope:Scope}{pos:Pos}{it acc:Value}{env:Env}{R:Result→Shared→Prop}(I:Nat→Shared→Prop)
  (turn:∀n s,I n s→wpAny (model prog w) A (pyNext it) (fun r s₁=>match r with
   |none=>R (.ok .next) s₁
   |some v=>wpAny (model prog w) A (letOwnedTupleGo target it v) (fun _ s₀=>wpAny (model prog w) A (assign target env v) (fun _ s₂=>
     wpAny (model prog w) A (forIn ifs true fun c r=>if r=true then do let ok←isTrue c env (eval c env);pure (ForInStep.yield ok)else pure (ForInStep.yield r)) (fun ok s₃=>if ok=true then wpAny (model prog w) A (eval elt env) (fun x s₄=>
      wpAny (model prog w) A (call (.builtin "list.append") [acc,x]) (fun _ s₅=>∃m,m<n∧I m s₅) (fun _ _=>False) s₄) (fun _ _=>False) s₃
      else∃m,m<n∧I m s₃) (fun _ _=>False) s₂)
     (fun _ _=>False) s₀) (fun _ _=>False) s₁) (fun _ _=>False) s)
  (n:Nat) (h:I n s):codeAny (model prog w) A (.compLoop (.ListComp elt [⟨target,iter,ifs,0⟩] scope pos) 0 it acc env) R s:=by
 refine codeAny_loop rfl I (fun n s hI=>?_) n h
 show wpAny _ A ((compTurn (.ListComp elt [⟨target,iter,ifs,0⟩] scope pos) 0 it acc env).onRaise (fun x=>do noteFrame x env;theTreesLotGoes x)) _ _ s
 refine wpAny_noted ?_
 rw[compTurn_list]
 refine wpAny_bind (wpAny_standAt (wpAny_bind (wpAny_mono (turn n s hI) (fun r s₁ h₁=>?_) fun _ _ f=>f.elim)))
 cases r with
 |none=>exact wpAny_pure h₁
 |some v=>
  refine wpAny_bind (wpAny_mono h₁ (fun _ s₀ h₀'=>?_) fun _ _ f=>f.elim)
  refine wpAny_bind (wpAny_mono h₀' (fun _ s₂ h₂=>?_) fun _ _ f=>f.elim)
  refine wpAny_bind (wpAny_mono h₂ (fun okb s₃ h₃=>?_) fun _ _ f=>f.elim)
  cases okb with
  |false=>exact wpAny_pure ⟨rfl,h₃⟩
  |true=>exact wpAny_bind (wpAny_bind (wpAny_mono h₃ (fun x s₄ h₄=>wpAny_bind (wpAny_mono h₄ (fun _ s₅ h₅=>wpAny_pure (wpAny_pure ⟨rfl,h₅⟩)) fun _ _ f=>f.elim)) fun _ _ f=>f.elim))
theorem Zk0{tg elt iter:Expr}{ifs:List Expr}{pos:Pos}{g:TG}{tt:TT}{te:TE}{it:Addr}{tn:Nat→Heap→Prop}{J:It}{Q:VK}{RR:Value→Addr→Result→Shared→Prop}{E:Value→Shared→Prop}
  (hc:X.calm=true) (S:CompScope X N' scope src)
  (hg:∀(C:Addr) (s₀:Shared) (H₀:Hp) (ex:List Addr),PG (X.block N' scope C s₀ H₀ ex) tg g)
  (ht:∀(C:Addr) (s₀:Shared) (H₀:Hp) (ex:List Addr),PTs (X.block N' scope C s₀ H₀ ex) ifs tt)
  (he:∀(C:Addr) (s₀:Shared) (H₀:Hp) (ex:List Addr),PE (X.block N' scope C s₀ H₀ ex) elt te)
  (I:Inv X pins σ H s) (T:Turn X.prog X.w X.K tg J fp it tn) (st:tn 0 s.heap) (hf:∀b∈fp,FpOk X pins H b)
  (q:∀acc,H acc=none→∃W:Nat→Nat→St→Hp→Prop,(∃m,W 0 m (bSt src σ acc) (upd H acc (.lst [])))∧∀i m σ' H,W i m σ' H→(J.stop i H∧Q (.ref acc) H)∨
   (J.go i H∧∀x H',J.yld i H x H'→g x σ' H' fun σ2 H2=>tt σ2 H2 fun b H3=>if b=true then te σ2 H3 fun y H4=>Zcz (.ref acc) [y] H4 fun _ H5=>∃m',m'<m∧W (i+1) m' σ2 H5 else∃m',m'<m∧W (i+1) m' σ2 H3))
  (hRR:∀(acc C:Addr) (s':Shared) (H':Hp) (m:Str→Option Value),Inv X pins σ H' s'→Q (.ref acc) H'→s'.heap.Ns C m→H' C=none→C≠X.env.locals→X.s₀.heap.objs.size≤C→(∀x c,X.env.cells.lookup x=some c→c≠C)→(∀p∈X.pn++pins,p.1≠C)→
   RR (.ref acc) C (.ok .next) s'):
  wpAny (model X.prog X.w) X.A (newList []) (fun acc s₃=>wpAny (model X.prog X.w) X.A (newFunctionEnv scope X.env.globals (clOf X.env.cells scope.names []) [] X.env.qual none .none (some X.env)) (fun cenv s₄=>
   codeAny (model X.prog X.w) X.A (.compStart (.ListComp elt [⟨tg,iter,ifs,0⟩] scope pos) 0 (.ref it) acc {cenv with scope:=relabel scope X.env}) (RR acc cenv.locals) s₄) E s₃) E s:=by
 have hfo:∀b∈fp,∃o,s.heap.get? b=some o:=fun b hb=>let⟨o,e,_⟩:=T.obj 0 _ st b hb;⟨o,e⟩
 refine wpAny_newObj_type (wpAny_newFunctionEnv S.nocell (by intro y hy;simp at hy) (fun h₁ hns₁ hsb₁=>?_) S.kind)
 dsimp only at hns₁ hsb₁⊢
 have hacc:H s.heap.objs.size=none:=I.hok.fresh (Nat.le_refl _)
 have I3:Inv X pins σ (upd H s.heap.objs.size (.lst [])) {s with heap:=s.heap.push {cls:=.type "list",dict:=none,data:=.seq ([]:List Value).toArray}}:=I.lnew (t':=s.toks) (its:=[]) (ys:=[]) .nil (Nat.zero_le _)
 have hf3:∀b∈fp,FpOk X pins (upd H s.heap.objs.size (.lst [])) b:=fun b hb=>by
  obtain⟨f0,f⟩:=hf b hb
  obtain⟨o,ho⟩:=hfo b hb
  exact⟨by rw[Zy (Nat.ne_of_lt (Heap.lt_size ho))];exact f0,f⟩
 have hfo3:∀b∈fp,∃o,(s.heap.push {cls:=.type "list",dict:=none,data:=.seq ([]:List Value).toArray}).get? b=some o:=fun b hb=>let⟨o,e⟩:=hfo b hb;⟨o,Heap.get?_push_of_some _ e⟩
 obtain⟨W,⟨m0,w0⟩,turn⟩:=q _ hacc
 generalize hH2:s.heap.push {cls:=.type "list",dict:=none,data:=.seq ([]:List Value).toArray}=H2 at hns₁ hsb₁ I3 hfo3⊢
 have keep:∀b o,H2.get? b=some o→h₁.get? b=some o:=fun b o e=>hsb₁.extBut b o (Nat.ne_of_lt (Heap.lt_size e)) (Heap.get?_push_of_some _ e)
 have J0:=Ziw (N':=N') (scope:=scope) (src:=src) (acc:=s.heap.objs.size) (tk:=s.toks+([]:List (Str×Value)).length) (C:=H2.objs.size) S I3 rfl hf3 hfo3 (show h₁.Ns H2.objs.size (fun _=>none)from hns₁) keep
 have st1:tn 0 h₁:=T.keep 0 s.heap h₁ st fun b hb o e=>keep b o (by rw[←hH2];exact Heap.get?_push_of_some _ e)
 have cne:H2.objs.size≠X.env.locals:=Nat.ne_of_gt I3.lt
 have csz:X.s₀.heap.objs.size≤H2.objs.size:=I3.sz
 have ccell:∀x c,X.env.cells.lookup x=some c→c≠H2.objs.size:=fun x c e z=>by
  obtain⟨v,oc,hoc,_⟩:=I3.cell x c e
  exact absurd (Heap.lt_size hoc) (by rw[z];exact Nat.lt_irrefl _)
 have cpin:∀p∈X.pn++pins,p.1≠H2.objs.size:=fun p hp z=>absurd (Heap.lt_size (I3.pin p hp).1) (by rw[z];exact Nat.lt_irrefl _)
 have loop:∀s₃:Shared,s₃={s with heap:=h₁,toks:=s.toks+([]:List (Str×Value)).length}→
   codeAny (model X.prog X.w) X.A (.compLoop (.ListComp elt [⟨tg,iter,ifs,0⟩] scope pos) 0 (.ref it) (.ref s.heap.objs.size) (compEnvC scope (clOf X.env.cells scope.names []) H2.objs.size X.env)) (RR (.ref s.heap.objs.size) H2.objs.size) s₃:=by
  rintro s₃ rfl
  refine Zmb (fun n s'=>∃i σ' H',Inv (X.block N' scope H2.objs.size {s with heap:=H2} (upd H s.heap.objs.size (.lst [])) fp) [] σ' H' s'∧tn i s'.heap∧(∀b∈fp,H' b=none)∧W i n σ' H') ?_ m0 ⟨0,_,_,J0,st1,fun b hb=>(hf3 b hb).1,w0⟩
  rintro n s4 ⟨i,σ4,H4,J4,st4,fr4,w4⟩
  have fok:∀{H':Hp},(∀b∈fp,H' b=none)→∀b∈fp,FpOk (X.block N' scope H2.objs.size {s with heap:=H2} (upd H s.heap.objs.size (.lst [])) fp) [] H' b:=fun{H'} hn b hb=>by
   obtain⟨f0,f1,f2,f3,f4,f5⟩:=hf3 b hb
   refine⟨hn b hb,?_,fun z=>J4.ok.exfs b hb z,.inl hb,fun x c e=>(J4.ok.exf b hb).2 x c e,fun p hp=>?_⟩
   ·exact(J4.ok.exf b hb).1
   ·have hp':p∈([]:List (Addr×Obj)):=by simpa using hp
    exact nomatch hp'
  rcases turn i n σ4 H4 w4 with⟨stop,qn⟩|⟨go,step⟩
  ·refine thn (T.done (X.block N' scope H2.objs.size {s with heap:=H2} (upd H s.heap.objs.size (.lst [])) fp) rfl rfl rfl hc i [] s4 σ4 H4 _ J4 (fok fr4) st4 stop) fun r s5 ⟨hr,J5⟩=>?_
   subst hr
   obtain⟨m5,hn5,_⟩:=J5.loc
   have I5:Inv X pins σ H4 s5:=I3.call' (ch:=fp) J5.os J5.base J5.hok J5.bare fun b hb=>by
    obtain⟨f0,f1,f2,f3,f4,f5⟩:=hf3 b hb
    exact⟨f3,f1,f4,f5⟩
   exact hRR _ _ s5 H4 m5 I5 qn hn5 J5.free cne csz ccell cpin
  ·refine thn (T.item (X.block N' scope H2.objs.size {s with heap:=H2} (upd H s.heap.objs.size (.lst [])) fp) rfl rfl rfl hc i [] s4 σ4 H4 _ J4 (fok fr4) st4 go) fun r s5 ⟨u,hr,h5⟩=>?_
   subst hr
   refine thn h5 fun _ s6 zq9=>?_
   obtain⟨x,H6,J6,r6,y6,st6,fr6⟩:=zq9
   have J6':=J6.pinned (fok fr6) (T.obj _ _ st6)
   have again:∀{σ7:St} {H7:Hp} {s7:Shared},Inv (X.block N' scope H2.objs.size {s with heap:=H2} (upd H s.heap.objs.size (.lst [])) fp) ([]++Zg8 fp s6.heap) σ7 H7 s7→(∃m',m'<n∧W (i+1) m' σ7 H7)→
     ∃m,m<n∧∃i σ' H',Inv (X.block N' scope H2.objs.size {s with heap:=H2} (upd H s.heap.objs.size (.lst [])) fp) [] σ' H' s7∧tn i s7.heap∧(∀b∈fp,H' b=none)∧W i m σ' H':=fun{σ7 H7 s7} J7 ⟨m',hm,w7⟩=>by
    refine⟨m',hm,i+1,σ7,H7,J7.unpinned,T.keep _ _ _ st6 fun b hb o e=>(J7.pin (b,o) (List.mem_append_right _ (List.mem_append_right _ (Zdj hb e)))).1,fun b hb=>?_,w7⟩
    obtain⟨o,e,d⟩:=T.obj _ _ st6 b hb
    exact(J7.pin (b,o) (List.mem_append_right _ (List.mem_append_right _ (Zdj hb e)))).2.1
   refine thn (hg _ _ _ _ _ s6 σ4 H6 x u _ J6' r6 (step x H6 y6)) fun _ s7 zq9=>?_
   obtain⟨σ7,H7,J7,q7⟩:=zq9
   refine thn (ht _ _ _ _ _ s7 σ7 H7 _ J7 q7) fun b s8 zq9=>?_
   obtain⟨H8,J8,q8⟩:=zq9
   cases b with
   |false=>rw[if_neg Bool.false_ne_true]at q8⊢;exact again J8 q8
   |true=>
    rw[if_pos rfl]at q8⊢
    refine thn (he _ _ _ _ _ s8 σ7 H8 _ J8 q8) fun y s9 zq9=>?_
    obtain⟨vy,H9,J9,r9,q9⟩:=zq9
    refine thn (Zc0 _ s9 σ7 H9 (.ref s.heap.objs.size) [vy] (.ref s.heap.objs.size) [y] _ J9 rfl (.cons r9 .nil) q9) fun _ s10 ⟨_,H10,J10,_,q10⟩=>again J10 q10
 exact codeAny_compStart_list (loop _ rfl) (T.self X.A 0 _ _ _ st1 (loop _ rfl))
theorem Zsc{tg elt iter:Expr}{ifs:List Expr}{pos:Pos}{wi:TI}{g:TG}{tt:TT}{te:TE}(hc:X.calm=true)(S:CompScope X N' scope src)(hi:PI X tg iter wi)
  (hg:∀(C:Addr) (s₀:Shared) (H₀:Hp) (ex:List Addr),PG (X.block N' scope C s₀ H₀ ex) tg g)
  (ht:∀(C:Addr) (s₀:Shared) (H₀:Hp) (ex:List Addr),PTs (X.block N' scope C s₀ H₀ ex) ifs tt)
  (he:∀(C:Addr) (s₀:Shared) (H₀:Hp) (ex:List Addr),PE (X.block N' scope C s₀ H₀ ex) elt te)
  (hs:∀x,foldedSetIterable iter X.env x=pure x:=by intro _;rfl):PE X (.ListComp elt [⟨tg,iter,ifs,0⟩] scope pos) (Zvh src wi g tt te):=by
 intro pins s σ H Q I h
 rw[eval_ListComp]
 refine wpAny_comprehension_free (use:=none) rfl hs (Zgh fun y hy e=>I.ok.has y.1 (S.free y hy e)) S.kind S.names (thn (hi pins s σ H _ I h) fun v s1 h1=>thn h1 fun itv s2 h2=>?_)
 obtain⟨it,fp,tn,J,H2,e,I2,T,st2,f2,q⟩:=h2
 subst e
 refine Zk0 hc S hg ht he I2 T st2 f2 q fun acc C s' H' m I' q' hn hC c1 c2 c3 c4=>⟨m,hn,fun h' hs'=>?_⟩
 exact⟨.ref acc,H',I'.turned (t':=s'.toks) (fun b o hb e=>(hs'.2 b hb).trans e) hC c1 (.inr c2) c3 c4,rfl,q'⟩
end
end L2
namespace L2
open PySem PySem.Spec PyProof.Rows
noncomputable def Zzh(h:Heap)(xs:List Addr):Heap:={objs:=(Array.range h.objs.size).map fun a=>if a∈xs then{cls:=.none,data:=.freed}else(h.objs[a]?).getD {cls:=.none,data:=.freed}}
structure Raised(h:Heap)(e:Addr)(cls:Value)(dx tb:Option Addr):Prop where
 obj:∃oe vs,h.get? e=some oe∧oe.cls=cls∧oe.dict=dx∧oe.data= .fields vs∧vs[1]? =some (match tb with|none=>.none|some T=>.ref T)
 tr:∀T,tb=some T→T≠e∧∃oT ts fl,h.get? T=some oT∧oT.data= .fields ts∧ts[3]? =some fl
noncomputable def tbl':Option Addr→List Addr
 |none=>[]
 |some T=>[T]
structure Noted(l:List Addr)(h h':Heap)(e:Addr)(cls:Value)(dx tb:Option Addr)(T:Addr):Prop where
 keep:∀b o,b≠e→b∉tbl' tb→b∉l→h.get? b=some o→h'.get? b=some o
 slot:∀b o,b∈l→h.get? b=some o→∃sl,h'.get? b=some {o with slots:=sl}
 new:h.get? T=none∨some T=tb
 r:Raised h' e cls dx (some T)
section
variable{M:Model}{A:Around}{E:Value→Shared→Prop}{s:Shared}{base:Heap}{env:Env}{outer:List Env}{L e:Addr}{cls:Value}{dx tb:Option Addr}{Q:Unit→Shared→Prop}
theorem Zo3(o:Obj)(f:Array Value→Array Value):(o.mapFields f).dict=o.dict:=by
 obtain⟨c,d,dt,sl⟩:=o
 cases dt<;> rfl
theorem Zho{oe:Obj}{vs:Array Value}{head:Value}{hadNext:Bool}(hf:A.frames=some (env::outer))(ff:s.heap.FunFrames base (env::outer))(hL:env.frame=some L)
  (h1:s.heap.get? e=some oe) (h3:oe.data= .fields vs) (hz:1<vs.size) (he:e∉frs (env::outer))
  (h:∀h' T,(∀b o,b≠e→b∉frs (env::outer)→s.heap.get? b=some o→h'.get? b=some o)→(∀b o,b≠e→b∈frs (env::outer)→s.heap.get? b=some o→∃sl,h'.get? b=some {o with slots:=sl})→s.heap.get? T=none→T≠e→
   h'.get? e=some (oe.mapFields (·.setIfInBounds 1 (.ref T)))→(∃oT ts fl,h'.get? T=some oT∧oT.data= .fields ts∧ts[3]? =some fl)→Q () {s with heap:=h'}):
  wpAny M A (do let a←frameOf env;let pl←entryPlaceOf L hadNext;let b←EntryCells.newEntry head a .none (rawInt L) .none pl;setField (.ref e) 1 b) Q E s:=by
 refine wpAny_bind (wpAny_frameOf_fun hf ff hL fun g1 sl1=>wpAny_bind (wpAny_entryPlaceOf fun pl ip=>?_))
 unfold EntryCells.newEntry newFields
 have e1:g1.get? e=some oe:=(sl1.2.1 e he).trans h1
 refine wpAny_bind (wpAny_newObj_type (wpAny_setField (Heap.get?_push_of_some _ e1) h3 hz ?_) (ip.sizeOk5 _ _ _ _ _))
 have ne:g1.objs.size≠e:=Nat.ne_of_gt (Heap.lt_size e1)
 have kp:∀b o,b≠e→g1.get? b=some o→((g1.push {cls:=.type "traceback",dict:=none,data:=.fields ([head,.ref L,.none,rawInt L,.none]++(if pl.isEmpty then List.replicate 6 Value.none else pl)).toArray}).update e (Obj.mapFields (·.setIfInBounds 1 (Value.ref g1.objs.size)))).get? b=some o:=fun b o nb q=>by
  rw[Heap.get?_update_other _ _ (Ne.symm nb)]
  exact Heap.get?_push_of_some _ q
 refine h _ g1.objs.size (fun b o nb nf q=>kp b o nb ((sl1.2.1 b nf).trans q)) (fun b o nb hb q=>?_) (Heap.get?_none_of_le (by rw[sl1.1];exact Nat.le_refl _)) ne ?_ ?_
 ·obtain⟨sl,q1⟩:=sl1.2.2 b o q
  exact⟨sl,kp b _ nb q1⟩
 ·exact Heap.get?_update_self _ (Heap.get?_push_of_some _ e1) (Obj.isFreed_of_fields (Obj.data_mapFields h3 _))
 ·refine⟨_,_,rawInt L,(Heap.get?_update_other _ _ (Ne.symm ne)).trans (Heap.get?_push_size g1 rfl),rfl,?_⟩
  simp
theorem Zjo(hf:A.frames=some (env::outer))(ff:s.heap.FunFrames base (env::outer))(hL:env.frame=some L)(r:Raised s.heap e cls dx tb)
  (h:∀h' T,Noted (frs (env::outer)) s.heap h' e cls dx tb T→Q () {s with heap:=h'}):wpAny M A (noteFrame (.ref e) env) Q E s:=by
 obtain⟨oe,vs,h1,h2,hd,h3,h5⟩:=r.obj
 have norec:∀b o ws,s.heap.get? b=some o→o.data= .fields ws→b∉frs (env::outer):=fun b o ws q qd hm=>by
  obtain⟨_,o',q1,q2⟩:=ff.mem hm
  rw[q]at q1;cases q1
  exact q2 ws qd
 have he:=norec e oe vs h1 h3
 have hz:1<vs.size:=(Array.getElem?_eq_some_iff.mp h5).1
 have obj':∀(h':Heap) (T:Addr),h'.get? e=some (oe.mapFields (·.setIfInBounds 1 (.ref T)))→∃oe vs,h'.get? e=some oe∧oe.cls=cls∧oe.dict=dx∧oe.data= .fields vs∧vs[1]? =some (.ref T):=fun h' T q=>
  ⟨_,_,q,(Obj.cls_mapFields _ _).trans h2,(Zo3 _ _).trans hd,Obj.data_mapFields h3 _,by simp[hz]⟩
 unfold noteFrame
 simp only[hL]
 refine wpAny_bind (wpAny_field h1 h3 h5 ?_)
 cases tb with
 |none=>
  rw[if_neg (by decide)]
  exact Zho hf ff hL h1 h3 hz he fun h' T k1 k2 k3 k4 k5 k6=>h h' T ⟨fun b o n1 _ n3 q=>k1 b o n1 n3 q,fun b o hb q=>k2 b o (fun z=>he (z▸hb)) hb q,.inl k3,obj' h' T k5,fun T' z=>by cases z;exact⟨k4,k6⟩⟩
 |some T0=>
  obtain⟨r1,oT,ts,fl,r2,r3,r4⟩:=r.tr T0 rfl
  have hT:=norec T0 oT ts r2 r3
  rw[if_pos (show(Value.ref T0 !=Value.none)=true from by simp)]
  refine wpAny_bind (wpAny_field r2 r3 r4 ?_)
  by_cases hfl:(fl==rawInt L)=true
  ·rw[if_pos hfl]
   exact wpAny_pure (h s.heap T0 ⟨fun _ _ _ _ _ q=>q,fun b o _ q=>⟨o.slots,q⟩,.inr rfl,r⟩)
  ·rw[if_neg hfl]
   have oth:∀b,b≠T0→(s.heap.update T0 (Obj.mapFields (·.setIfInBounds 3 Value.none))).get? b=s.heap.get? b:=fun b hb=>Heap.get?_update_other _ _ (Ne.symm hb)
   have sz3:=(Array.getElem?_eq_some_iff.mp r4).1
   have atT:(s.heap.update T0 (Obj.mapFields (·.setIfInBounds 3 Value.none))).get? T0=some (oT.mapFields (·.setIfInBounds 3 Value.none)):=Heap.get?_update_self _ r2 (Obj.isFreed_of_fields (Obj.data_mapFields r3 _))
   refine wpAny_bind (wpAny_setField r2 r3 sz3 (Zho (base:=base) hf (ff.of_keeps fun b o q nf=>⟨o,(oth b fun z=>nf ts (by rw[z,r2]at q;cases q;exact r3)).trans q,rfl⟩) hL ((oth e (Ne.symm r1)).trans h1) h3 hz he fun h' T k1 k2 k3 k4 k5 k6=>?_))
   refine h h' T ⟨fun b o n1 n2 n3 q=>k1 b o n1 n3 ((oth b fun z=>n2 (by rw[z];exact List.mem_singleton.mpr rfl)).trans q),fun b o hb q=>k2 b o (fun z=>he (z▸hb)) hb ((oth b fun z=>hT (z▸hb)).trans q),?_,obj' h' T k5,fun T' z=>by cases z;exact⟨k4,k6⟩⟩
   by_cases z:T=T0
   ·exact .inr (by rw[z])
   ·exact .inl ((oth T z).symm.trans k3)
theorem Zeh{T:Addr}{fr:Option Addr}{l:List Addr}(r:Raised s.heap e cls dx (some T))(hn:∀b o ws,s.heap.get? b=some o→o.data= .fields ws→b∉l)
  (h:∀h',Noted l s.heap h' e cls dx (some T) T→Q () {s with heap:=h'}):wpAny M A (setFlight (.ref e) fr) Q E s:=by
 obtain⟨oe,vs,h1,h2,hd,h3,h5⟩:=r.obj
 obtain⟨r1,oT,ts,fl,r2,r3,r4⟩:=r.tr T rfl
 have sz3:=(Array.getElem?_eq_some_iff.mp r4).1
 unfold setFlight
 refine wpAny_bind (wpAny_field h1 h3 h5 ?_)
 rw[if_pos (show(Value.ref T !=Value.none)=true from by simp)]
 have oth:∀b,b≠T→(s.heap.update T (Obj.mapFields (·.setIfInBounds 3 (fr.elim .none fun f=>rawInt f)))).get? b=s.heap.get? b:=fun b hb=>Heap.get?_update_other _ _ (Ne.symm hb)
 refine wpAny_setField r2 r3 sz3 (h _ ⟨fun b o n1 n2 n3 q=>(oth b fun z=>n2 (by rw[z];exact List.mem_singleton.mpr rfl)).trans q,fun b o hb q=>⟨o.slots,(oth b fun z=>hn T oT ts r2 r3 (z▸hb)).trans q⟩,.inr rfl,⟨oe,vs,(oth e (Ne.symm r1)).trans h1,h2,hd,h3,h5⟩,fun T' z=>?_⟩)
 cases z
 exact⟨r1,_,_,fr.elim .none fun f=>rawInt f,Heap.get?_update_self _ r2 (Obj.isFreed_of_fields (Obj.data_mapFields r3 _)),Obj.data_mapFields r3 _,by simp[sz3]⟩
theorem Noted.trans{l:List Addr}{h h1 h2:Heap}{T T':Addr}(a:Noted l h h1 e cls dx tb T)(b:Noted l h1 h2 e cls dx (some T) T')(hT:T∉l)(hT0:∀T0,tb=some T0→h.get? T=none∨T=T0):Noted l h h2 e cls dx tb T':=by
 have nT:∀b o,b∉tbl' tb→h.get? b=some o→b≠T:=fun b o n q z=>by
  rcases a.new with k|k
  ·rw[z,k]at q;cases q
  ·rw[←k]at n;exact n (by rw[z];exact List.mem_singleton.mpr rfl)
 refine⟨fun c o n1 n2 n3 q=>b.keep c o n1 (fun z=>nT c o n2 q (List.mem_singleton.mp z)) n3 (a.keep c o n1 n2 n3 q),fun c o hc q=>?_,?_,b.r⟩
 ·obtain⟨sl,q1⟩:=a.slot c o hc q
  obtain⟨sl',q2⟩:=b.slot c _ hc q1
  exact⟨sl',q2⟩
 ·rcases b.new with k|k
  ·by_cases hm:some T'=tb
   ·exact .inr hm
   ·refine .inl ?_
    cases z:h.get? T' with
    |none=>rfl
    |some o=>
     exfalso
     by_cases hl:T'∈l
     ·obtain⟨sl,q1⟩:=a.slot T' o hl z
      rw[k]at q1;cases q1
     ·by_cases he:T'=e
      ·obtain⟨oe,vs,q1,_⟩:=a.r.obj
       rw[←he,k]at q1;cases q1
      ·have:=a.keep T' o he (fun y=>hm (by cases tb with
        |none=>cases y
        |some T0=>rw[List.mem_singleton.mp y])) hl z
       rw[k]at this;cases this
  ·cases k
   rcases a.new with k|k
   ·exact .inl k
   ·exact .inr k
theorem Zfx(hf:A.frames=some (env::outer))(ff:s.heap.FunFrames base (env::outer))(hL:env.frame=some L)(r:Raised s.heap e cls dx tb)
  (h:∀h' T,Noted (frs (env::outer)) s.heap h' e cls dx tb T→Q () {s with heap:=h'}):wpAny M A (leaving env (.ref e)) Q E s:=by
 have norec:∀b o ws,s.heap.get? b=some o→o.data= .fields ws→b∉frs (env::outer):=fun b o ws q qd hm=>by
  obtain⟨_,o',q1,q2⟩:=ff.mem hm
  rw[q]at q1;cases q1
  exact q2 ws qd
 unfold leaving
 refine wpAny_bind (Zjo hf ff hL r fun h1 T1 n1=>?_)
 have norec1:∀b o ws,h1.get? b=some o→o.data= .fields ws→b∉frs (env::outer):=fun b o ws q qd hm=>by
  obtain⟨_,o',q1,q2⟩:=ff.mem hm
  obtain⟨sl,q3⟩:=n1.slot b o' hm q1
  rw[q]at q3;cases q3
  exact q2 ws qd
 refine Zeh (s:={s with heap:=h1}) n1.r norec1 fun h2 n2=>?_
 obtain⟨_,oT,ts,fl,r2,r3,_⟩:=n1.r.tr T1 rfl
 exact h h2 T1 (n1.trans n2 (norec1 T1 oT ts r2 r3) fun T0 z=>by
  rcases n1.new with k|k
  ·exact .inl k
  ·rw[z]at k;cases k;exact .inr rfl)
end
end L2
namespace L2
open PySem PySem.Spec PyProof.Rows
noncomputable def CX1(P:Program)(w:World):CXT:=fun outer H s E e s'=>∃(a:Addr) (cls:Value) (dx:Option Addr) (T:Addr) (H':Hp),e= .ref a∧s'.os=s.os∧AllBare s'.gens∧Un (frs outer) [] H H' s.heap s'.heap∧HOk P w H' s'.heap∧
 Raised s'.heap a cls dx (some T)∧s.heap.get? a=none∧s.heap.get? T=none∧H' a=none∧H' T=none∧E cls dx H'
noncomputable def Zhp(X:Cx)(EX:XK):Prop:=∀(pins:List (Addr×Obj)) (σ:St) (H:Hp) (s:Shared) (e:Addr) (cls:Value) (dx tb:Option Addr),Inv X pins σ H s→Raised s.heap e cls dx tb→X.s₀.heap.get? e=none→H e=none→
 (∀T,tb=some T→X.s₀.heap.get? T=none∧H T=none)→EX cls dx H→X.xe (.ref e) s
theorem Zcw.has{P:Program}{w:World}{H:Hp}{h:Heap}{a:Addr}:∀{o:HO},Zcw P w H h a o→∃u,h.get? a=some u:=by
 intro o
 induction o with
 |lst xs=>intro⟨_,_,_,_,e⟩;exact⟨_,e⟩
 |tup xs=>intro⟨_,_,_,_,e,_⟩;exact⟨_,e⟩
 |dK kvs ep=>intro⟨_,_,_,_,o,_,e,_⟩;exact⟨_,e⟩
 |dT kvs ep bs=>intro⟨_,_,_,_,o,_,e,_⟩;exact⟨_,e⟩
 |set S n=>intro⟨o,_,_,_,e,_⟩;exact⟨_,e⟩
 |ins C dx fs=>intro⟨_,_,_,e,_⟩;exact⟨_,e⟩
 |own y=>intro⟨_,e⟩;exact⟨_,e⟩
 |xd fs=>intro⟨_,⟨_,_,_,e,_⟩,_⟩;exact⟨_,e⟩
 |rng lo hi=>intro⟨_,_,_,e⟩;exact⟨_,e⟩
 |frz ob u _=>intro⟨e,_⟩;exact⟨_,e⟩
 |tbl ps=>intro e;exact⟨_,(show h.get? a=some _ from e)⟩
 |met f y=>intro e;exact⟨_,(show h.get? a=some _ from e)⟩
 |ext φ=>intro⟨_,⟨_,e⟩,_⟩;exact⟨_,e⟩
theorem HOk.gone{P:Program}{w:World}{H:Hp}{h:Heap}(ok:HOk P w H h){a:Addr}(n:h.get? a=none):H a=none:=by
 cases e:H a with
 |none=>rfl
 |some o=>
  obtain⟨u,q⟩:=(ok a o e).has
  rw[n]at q;cases q
theorem Zmc{P:Program}{w:World}{H:Hp}{h h':Heap}(ok:HOk P w H h)(k:∀b o,H b≠none→h.get? b=some o→h'.get? b=some o):HOk P w H h':=fun a o e=>
 (ok a o e).stay (fun b u hb q=>k b u (by rcases hb with hb|hb<;> rw[hb]<;> simp[e]) q) (fun _ z=>z) fun _ _ z=>z
theorem Zo4{env:Env}{l:List Env}{b:Addr}(h:b∈frs l):b∈frs (env::l):=by
 unfold frs at h⊢
 obtain⟨x,hx,e⟩:=List.mem_filterMap.mp h
 exact List.mem_filterMap.mpr ⟨x,List.mem_cons_of_mem _ hx,e⟩
theorem Zan{P:Program}{w:World}{K:PySem.W.Frag}{mg:Str→Option Value}{base:Heap}{N:List Str}{qual:Str}{scope:Scope}{f:Addr}{cd:Value}{A:Around}{outer:List Env}{s:Shared}{H:Hp}{E:XK}:
  Zhp (cxOf (CX1 P w) P w K mg base N qual scope f cd A outer s H E) E:=by
 intro pins σ H1 s1 e cls dx tb I r he heH hT q
 have hf:=I.ok.frames
 have ff:=I.stack
 have hfr:(cxOf (CX1 P w) P w K mg base N qual scope f cd A outer s H E).env.frame=some (cxOf (CX1 P w) P w K mg base N qual scope f cd A outer s H E).env.locals:=by
  rcases I.ok.stk with z|z
  ·have:=congrArg List.length z
   exact absurd this (by show outer.length+1≠outer.length;omega)
  ·exact z.2
 have sf:=I.stkFree
 have he':s.heap.get? e=none:=he
 have up:Un (frs outer) [] H H1 s.heap s1.heap:=I.base
 refine Zfx hf ff hfr r fun h' T zq9=>?_
 obtain⟨k1,k2,k3,r'⟩:=zq9
 have hT':s.heap.get? T=none∧H1 T=none:=by
  rcases k3 with k3|k3
  ·refine⟨?_,I.hok.gone k3⟩
   cases z:s.heap.get? T with
   |none=>rfl
   |some o=>
    obtain⟨o',q'⟩:=up.there T o z (by simp)
    rw[k3]at q';cases q'
  ·exact hT T k3.symm
 have old:∀b o,s.heap.get? b=some o→b≠e∧b∉tbl' tb:=fun b o qb=>by
  refine⟨(fun z=>by rw[z,he']at qb;cases qb),fun z=>?_⟩
  cases tb with
  |none=>cases z
  |some T0=>
   have:=(hT T0 rfl).1
   rw[List.mem_singleton.mp z]at qb
   have this':s.heap.get? T0=none:=this
   rw[this']at qb;cases qb
 have loc:∀b o,s.heap.get? b=some o→b∉frs outer→b∉frs ((cxOf (CX1 P w) P w K mg base N qual scope f cd A outer s H E).env::outer):=fun b o qb hb hm=>by
  unfold frs at hm
  rw[List.filterMap_cons,hfr]at hm
  rcases List.mem_cons.mp hm with z|z
  ·have:=I.ok.above
   have h2:=Heap.lt_size qb
   rw[z]at h2
   exact absurd h2 (Nat.not_lt.mpr this)
  ·exact hb z
 refine⟨e,cls,dx,T,H1,rfl,I.os,I.bare,⟨fun b o qb n hb hx=>?_,fun b o qb n hb hx=>?_,fun b o qb n hx=>up.free b o qb n hx,fun b o qb hx=>?_,up.tups,up.frzs,up.tbls⟩,?_,r',he',hT'.1,heH,hT'.2,q⟩
 ·obtain⟨o1,o2⟩:=old b o qb
  exact k1 b o o1 o2 (loc b o qb hb) (up.keep b o qb n hb hx)
 ·obtain⟨sl,q1⟩:=up.slot b o qb n hb hx
  obtain⟨sl',q2⟩:=k2 b _ (Zo4 hb) q1
  exact⟨sl',q2⟩
 ·obtain⟨o',q1⟩:=up.there b o qb hx
  obtain⟨o1,o2⟩:=old b o qb
  by_cases b1:b∈frs ((cxOf (CX1 P w) P w K mg base N qual scope f cd A outer s H E).env::outer)
  ·obtain⟨sl,z⟩:=k2 b o' b1 q1;exact⟨_,z⟩
  ·exact⟨o',k1 b o' o1 o2 b1 q1⟩
 ·refine Zmc I.hok fun b o hb qb=>k1 b o (fun z=>hb (by rw[z];exact heH)) (fun z=>?_) (fun z=>hb (sf b z)) qb
  cases tb with
  |none=>cases z
  |some T0=>exact hb (by rw[List.mem_singleton.mp z];exact(hT T0 rfl).2)
end L2
namespace L2
open PySem PySem.Spec PyProof.Rows
abbrev VEB:List Value:=[.type "ValueError",.type "Exception",.type "BaseException",.type "object"]
theorem Zk1{h h':Heap}{bmB:List Value}(k:∀b o,h.get? b=some o→h'.get? b=some o):∀{bm:List Value},OwnTail h bmB bm→OwnTail h' bmB bm:=by
 intro bm t
 induction t with
 |base=>exact .base
 |own e n m _ ih=>exact .own (k _ _ e) (n.keeps k) m ih
noncomputable def Zqm(EX:XK)(C:Addr)(t:TA):TS:=fun _ σ H=>t σ H fun vs H1=>vs.length≤sizeLine∧EX (.ref C) none H1
theorem Zo5{X:Cx}{EX:XK}{x:Str}{C:Addr}{np cpos pos:Pos}{a:Expr}{t:TA}(th:Zhp X EX)(hc:X.calm=true)(hex:X.ex=[])(oc:OwnCls x C VEB "ValueError.__new__" X.mg X.base)(hg:Gl X x)(ha:PA X [a] t)
  (he:starEach [a] X.env=(false,eval a X.env)::starEach [] X.env:=by rfl) (hpl:((backTo cpos (starEach [a] X.env)).any fun x=>x.1)=false:=by rfl)
  (hbk:∃y rest,backTo cpos (starEach [a] X.env)=(false,y)::rest:=by exact⟨_,_,rfl⟩)
  (hbm:∀h bm,OwnTail h VEB bm→bm.contains (.type "BaseException")=true) (hd:(x==("__debug__":Str))=false:=by decide):PS X (.Raise (some (.Call (.Name x np) [a] [] cpos)) none pos) (Zqm EX C t):=by
 intro pins s σ H D I h
 obtain⟨hb,bm,N,nm,q,bs,hdct,sn,sub,ab,col,dd,k0,k1,k2,k3,k5,mN,o1,o2,o3,o4⟩:=oc
 refine wpAny_Raise_call_subU (C:=C) (Bn:="ValueError") (B:="ValueError") (nm:=nm) (q:=q) (N:=N) (bs:=bs) (bm:=bm) (hdct:=hdct) (sn:=sn) (sub:=sub) (ab:=ab) (col:=col) (dd:=dd) (k0:=k0) (k1:=k1) (k2:=k2) (k3:=k3) (k5:=k5) (mN:=mN) PySem.F.excBase_ValueError (by decide) PySem.F.excBase_ValueError (hbm _ _ o4) (I.ok.hd hc) hpl o3 ?_
 refine Zfc I hg hb ⟨rfl,?_⟩ hd
 obtain⟨y,rest,hy⟩:=hbk
 rw[hy]
 refine Calls.evalArgs_plain ?_
 rw[←hy]
 refine thn (ha cpos pins s σ H _ I h) fun us s2 ⟨vs,H2,I2,r2,zl,q2⟩=>⟨rfl,(by rw[←r2.length];exact zl),I2.bk _ _ o1,o2.keeps I2.bk,Zk1 I2.bk o4,fun h' e m=>?_⟩
 ·obtain⟨T,m1,m2,m3⟩:=m.there
  have I3:Inv X pins σ H2 {s2 with heap:=h'}:=I2.kept (t':=s2.toks) m.keeps
  refine th pins σ H2 _ e (.ref C) none none I3 ⟨⟨_,_,m1,rfl,rfl,rfl,rfl⟩,fun T' z=>nomatch z⟩ ?_ ?_ (fun T' z=>nomatch z) q2
  ·cases z:X.s₀.heap.get? e with
   |none=>rfl
   |some o=>
    obtain⟨o',z'⟩:=I2.base.there e o z (by rw[hex];simp)
    rw[m.new]at z';cases z'
  ·exact HOk.gone I2.hok m.new
end L2
namespace L2
open PySem PySem.Spec PyProof.Rows
noncomputable abbrev EXT:=Value→Option Addr→St→Hp→Prop
noncomputable def Zdq(X:Cx)(EX:EXT):Prop:=∀(pins:List (Addr×Obj)) (σ:St) (H:Hp) (s:Shared) (e:Addr) (cls:Value) (dx:Option Addr) (T:Addr),Inv X pins σ H s→Raised s.heap e cls dx (some T)→X.s₀.heap.get? e=none→H e=none→
 X.s₀.heap.get? T=none→H T=none→(∀p∈X.pn++pins,p.1≠e∧p.1≠T)→(e≠X.env.locals∧T≠X.env.locals)→(∀x c,X.env.cells.lookup x=some c→c≠e∧c≠T)→EX cls dx σ H→X.xe (.ref e) s
theorem Zhp.t{X:Cx}{EX:XK}(h:Zhp X EX):Zdq X fun cls od _ H=>EX cls od H:=fun pins σ H s e cls dx T I r h1 h2 h3 h4 _ _ _ q=>h pins σ H s e cls dx (some T) I r h1 h2 (fun T' z=>by cases z;exact⟨h3,h4⟩) q
theorem Zsd{X:Cx}{EX:EXT}(th:Zdq X EX)(hex:X.ex=[]){pins:List (Addr×Obj)}{σ:St}{H:Hp}{s s':Shared}{e:Value}(I:Inv X pins σ H s)(h:CX1 X.prog X.w X.stack H s (fun cls od H'=>EX cls od σ H') e s'):X.xe e s':=by
 obtain⟨a,cls,dx,T,H',he,os,bare,un,hok,r,n1,n2,n3,n4,q⟩:=h
 subst he
 have I':Inv X pins σ H' s':=I.call' (ch:=[]) os un hok bare (fun b hb=>nomatch hb)
 have old:∀b,s.heap.get? b=none→X.s₀.heap.get? b=none:=fun b hb=>by
  cases z:X.s₀.heap.get? b with
  |none=>rfl
  |some o=>
   obtain⟨o',z'⟩:=I.base.there b o z (by rw[hex];simp)
   rw[hb]at z';cases z'
 have pin:∀b,s.heap.get? b=none→∀p∈X.pn++pins,p.1≠b:=fun b hb p hp z=>by
  have:=(I.pin p hp).1
  rw[z,hb]at this;cases this
 have loc:∀b,s.heap.get? b=none→b≠X.env.locals:=fun b hb z=>by
  obtain⟨m,⟨o,es,ep,ho,_⟩,_⟩:=id I.loc
  rw[z,ho]at hb;cases hb
 have cel:∀b,s.heap.get? b=none→∀x c,X.env.cells.lookup x=some c→c≠b:=fun b hb x c hc z=>by
  obtain⟨v,o,ho,_⟩:=I.cell x c hc
  rw[z,hb]at ho;cases ho
 exact th pins σ H' s' a cls dx T I' r (old a n1) n3 (old T n2) n4 (fun p hp=>⟨pin a n1 p hp,pin T n2 p hp⟩) ⟨loc a n1,loc T n2⟩ (fun x c hc=>⟨cel a n1 x c hc,cel T n2 x c hc⟩) q
noncomputable def Zmd(X:Cx)(EX:EXT):Prop:=∀(pins:List (Addr×Obj)) (σ:St) (H:Hp) (s:Shared) (e:Value) (s':Shared),Inv X pins σ H s→CX1 X.prog X.w X.stack H s (fun cls od H'=>EX cls od σ H') e s'→X.xe e s'
theorem Zdq.pass{X:Cx}{EX:EXT}(th:Zdq X EX)(hex:X.ex=[]):Zmd X EX:=fun _ _ _ _ _ _ I h=>Zsd th hex I h
noncomputable def Zme(sp:Sp)(EX:EXT)(t:TA):TE:=fun σ H Q=>t σ H fun vs H1=>sp vs H1 Q fun cls od H'=>EX cls od σ H'
theorem Zjp{X:Cx}{EX:EXT}{k:Nat}{f:Addr}{fd:FuncData}{ps:List Str}{sp:Sp}{x:Str}{p pos:Pos}{e:Expr}{es:List Expr}{t:TA}(F:FnOk X.prog X.w X.K X.mg X.base (CX1 X.prog X.w) k f fd ps sp)(hr:Room k X.A)(hg:Gl X x)(hm:X.mg x=some (.ref f))(hk:PySem.W.keepIn X.K (.ref f)=true)(hb:Zat X.K fd ps [])
  (th:Zmd X EX) (ha:PA X (e::es) t) (hdb:(x==("__debug__":Str))=false:=by decide) (he:starEach (e::es) X.env=(false,eval e X.env)::starEach es X.env:=by rfl) (hpl:(backTo pos (starEach es X.env)).any (·.1)=false:=by rfl):
  PE X (.Call (.Name x p) (e::es) [] pos) (Zme sp EX t):=by
 intro pins s σ H Q I h
 refine wpAny_Call_Name_kw (Zfc I hg hm ?_ hdb)
 refine PySem.W.callWith_K (h₀:=X.base) I.ok.mod.kin hk (thn (ha pos pins s σ H _ I h) fun us s1 ⟨vs,H1,I1,r,q⟩=>⟨I1.kIn,?_⟩) he hpl
 have hl:(us++[]).length=ps.length:=by rw[List.append_nil,←r.length];exact F.len _ _ _ _ q
 have bb:=hb s1 us I1.kIn hl
 rw[List.append_nil]at bb
 refine wpAny_call (codeAny_mono (F.run X.A X.stack s1 H1 ⟨us,[]⟩ us vs Q _ hr I1.env0 bb r q) fun r' s' hq=>?_)
 cases r' with
 |error e=>exact th _ _ _ _ _ _ I1 hq
 |ok fl=>
  cases fl with
  |ret u=>exact I1.after hq
  |next=>exact False.elim hq
  |brk=>exact False.elim hq
  |cont=>exact False.elim hq
end L2
namespace L2
open PySem PySem.Spec PyProof.Rows
structure Air(X:Cx)(pins:List (Addr×Obj))(H:Hp)(s:Shared)(e:Addr)(cls:Value)(dx:Option Addr)(T:Addr):Prop where
 r:Raised s.heap e cls dx (some T)
 e0:X.s₀.heap.get? e=none
 eH:H e=none
 t0:X.s₀.heap.get? T=none
 tH:H T=none
 pe:∀p∈X.pn++pins,p.1≠e∧p.1≠T
 le:e≠X.env.locals∧T≠X.env.locals
 ce:∀x c,X.env.cells.lookup x=some c→c≠e∧c≠T
section
variable{X:Cx}{pins:List (Addr×Obj)}{σ:St}{H:Hp}{s:Shared}{e T:Addr}{cls:Value}{dx:Option Addr}
theorem Inv.air{h':Heap}{T':Addr}(I:Inv X pins σ H s)(a:Air X pins H s e cls dx T)(hex:X.ex=[])(k1:∀b o,b≠e→b≠T→b∉frs X.stack→s.heap.get? b=some o→h'.get? b=some o)
  (k2:∀b o,b∈frs X.stack→s.heap.get? b=some o→∃sl,h'.get? b=some {o with slots:=sl}) (r':Raised h' e cls dx (some T')) (hT:s.heap.get? T'=none∨T'=T):
  Inv X pins σ H {s with heap:=h'}∧Air X pins H {s with heap:=h'} e cls dx T':=by
 have old:∀b o,X.s₀.heap.get? b=some o→b≠e∧b≠T:=fun b o q=>⟨(fun z=>by rw[z,a.e0]at q;cases q),(fun z=>by rw[z,a.t0]at q;cases q)⟩
 have nl:∀b o,X.s₀.heap.get? b=some o→b≠X.env.locals:=fun b o q=>Nat.ne_of_lt (Nat.lt_of_lt_of_le (Heap.lt_size q) I.ok.above)
 have nst:∀b,b≠X.env.locals→b∉X.fs→b∉frs X.stack:=fun b h1 h2 z=>(List.mem_cons.mp (I.stkSub b z)).elim h1 h2
 have any:∀b o,b≠e→b≠T→s.heap.get? b=some o→∃sl,h'.get? b=some {o with slots:=sl}:=fun b o n1 n2 q=>by
  by_cases hb:b∈frs X.stack
  ·exact k2 b o hb q
  ·exact⟨o.slots,k1 b o n1 n2 hb q⟩
 have cellK:∀x c,X.env.cells.lookup x=some c→∀v,s.heap.IsCell c v→h'.IsCell c v:=fun x c ec v ⟨o,ho,hd⟩=>by
  obtain⟨sl,q⟩:=any c o (a.ce x c ec).1 (a.ce x c ec).2 ho
  exact⟨_,q,hd⟩
 refine⟨⟨I.ok,I.os,I.bare,⟨fun b o q n hb hx=>?_,fun b o q n hb hx=>?_,I.base.free,fun b o q hx=>?_,I.base.tups,I.base.frzs,I.base.tbls⟩,?_,fun x c ec=>?_,I.free,I.freeC,fun p hp=>?_,?_,I.len⟩,⟨r',a.e0,a.eH,?_,?_,fun p hp=>⟨(a.pe p hp).1,?_⟩,⟨a.le.1,?_⟩,fun x c ec=>⟨(a.ce x c ec).1,?_⟩⟩⟩
 ·exact k1 b o (old b o q).1 (old b o q).2 (nst b (nl b o q) hb) (I.base.keep b o q n hb hx)
 ·obtain⟨sl,q1⟩:=I.base.slot b o q n hb hx
  obtain⟨sl',q2⟩:=any b _ (old b o q).1 (old b o q).2 q1
  exact⟨sl',q2⟩
 ·obtain⟨o',q1⟩:=I.base.there b o q hx
  obtain⟨sl',q2⟩:=any b _ (old b o q).1 (old b o q).2 q1
  exact⟨_,q2⟩
 ·obtain⟨m,⟨o,es,ep,ho,rr⟩,hl⟩:=I.loc
  obtain⟨sl,q2⟩:=any _ o (Ne.symm a.le.1) (Ne.symm a.le.2) ho
  refine⟨m,⟨_,es,ep,q2,rr⟩,fun i x v e1 e2 e3=>?_⟩
  obtain⟨u,r,l⟩:=hl i x v e1 e2 e3
  refine⟨u,r,?_⟩
  rcases l with l|⟨k,c,ec,z⟩
  ·exact .inl l
  ·exact .inr ⟨k,c,ec,cellK x c ec _ z⟩
 ·obtain⟨v,z⟩:=I.cell x c ec
  exact⟨v,cellK x c ec v z⟩
 ·obtain⟨q,n,ne,nf,d⟩:=I.pin p hp
  exact⟨k1 p.1 p.2 (a.pe p hp).1 (a.pe p hp).2 (nst _ ne nf) q,n,ne,nf,d⟩
 ·exact Zmc I.hok fun b o hb q=>k1 b o (fun z=>hb (by rw[z];exact a.eH)) (fun z=>hb (by rw[z];exact a.tH)) (fun z=>hb (I.stkFree b z)) q
 ·rcases hT with hT|hT
  ·cases z:X.s₀.heap.get? T' with
   |none=>rfl
   |some o=>
    obtain⟨o',q⟩:=I.base.there T' o z (by rw[hex];simp)
    rw[hT]at q;cases q
  ·rw[hT];exact a.t0
 ·rcases hT with hT|hT
  ·exact I.hok.gone hT
  ·rw[hT];exact a.tH
 ·rcases hT with hT|hT
  ·intro z
   have:=(I.pin p hp).1
   rw[z,hT]at this;cases this
  ·rw[hT];exact(a.pe p hp).2
 ·rcases hT with hT|hT
  ·intro z
   obtain⟨m,⟨o,es,ep,ho,_⟩,_⟩:=I.loc
   rw[←z,hT]at ho;cases ho
  ·rw[hT];exact a.le.2
 ·rcases hT with hT|hT
  ·intro z
   obtain⟨v,o,ho,_⟩:=I.cell x c ec
   rw[z,hT]at ho;cases ho
  ·rw[hT];exact(a.ce x c ec).2
theorem Inv.noted{h':Heap}{T':Addr}(I:Inv X pins σ H s)(a:Air X pins H s e cls dx T)(hex:X.ex=[])(n:Noted (frs X.stack) s.heap h' e cls dx (some T) T'):Inv X pins σ H {s with heap:=h'}∧Air X pins H {s with heap:=h'} e cls dx T':=
 I.air a hex (fun b o n1 n2 n3 q=>n.keep b o n1 (fun z=>n2 (List.mem_singleton.mp z)) n3 q) n.slot n.r (by
  rcases n.new with k|k
  ·exact .inl k
  ·cases k;exact .inr rfl)
theorem Zch{M:Model}{A:Around}{E:Value→Shared→Prop}{Q:Shared→Prop}(I:Inv X pins σ H s)(a:Air X pins H s e cls dx T)(hex:X.ex=[])(hA:A.frames=some X.stack)(hst:X.stack=X.env::X.outer)(hfr:X.env.frame=some X.env.locals)
  (k:∀h' T',Inv X pins σ H {s with heap:=h'}→Air X pins H {s with heap:=h'} e cls dx T'→Q {s with heap:=h'}):
  wpAny M A (noteFrame (.ref e) X.env) (fun _ s2=>wpAny M A (setFlight (.ref e) none) (fun _ s3=>Q s3) E s2) E s∧wpAny M A (setFlight (.ref e) none) (fun _ s3=>Q s3) E s:=by
 have nor:∀{σ:St} {H:Hp} {s:Shared},Inv X pins σ H s→∀b o ws,s.heap.get? b=some o→o.data= .fields ws→b∉frs X.stack:=fun{σ H s} I b o ws q qd hm=>by
  obtain⟨_,o',q1,q2⟩:=I.stack.mem hm
  rw[q]at q1;cases q1
  exact q2 ws qd
 constructor
 ·have ff:s.heap.FunFrames X.base (X.env::X.outer):=by rw[←hst];exact I.stack
  refine Zjo (by rw[hA,hst]) ff hfr a.r fun h1 T1 n1=>?_
  rw[←hst]at n1
  obtain⟨I1,a1⟩:=I.noted a hex n1
  refine Zeh (s:={s with heap:=h1}) a1.r (nor I1) fun h2 n2=>?_
  obtain⟨I2,a2⟩:=I1.noted a1 hex n2
  exact k h2 T1 I2 a2
 ·refine Zeh a.r (nor I) fun h2 n2=>?_
  obtain⟨I2,a2⟩:=I.noted a hex n2
  exact k h2 T I2 a2
end
noncomputable abbrev Cx.inTry(X:Cx)(pn:List (Addr×Obj))(xe:Value→Shared→Prop):Cx:={X with pn:=pn,xe:=xe}
noncomputable abbrev Cx.inSuite(X:Cx)(a:Addr):Cx:={X with A:=X.A.mark (some (.ref a)),calm:=false,xe:=fun _ _=>False}
section
variable{X:Cx}{pins:List (Addr×Obj)}{σ:St}{H:Hp}{s:Shared}{e T:Addr}{cls:Value}{dx:Option Addr}{xe:Value→Shared→Prop}
theorem Cx.Ok.tryIn{pn:List (Addr×Obj)}(k:X.Ok):(X.inTry pn xe).Ok:=⟨k.mod,k.kind,k.glob,k.blt,k.above,k.inj,k.has,k.cab,k.hd,k.frames,k.stk,k.exf,k.bs,k.bsz,k.noex,k.exfs,k.funs,k.frf⟩
theorem Cx.Ok.suiteIn(k:X.Ok):(X.inSuite e).Ok:=⟨k.mod,k.kind,k.glob,k.blt,k.above,k.inj,k.has,k.cab,(fun h=>nomatch h),k.frames,k.stk,k.exf,k.bs,k.bsz,k.noex,k.exfs,k.funs,k.frf⟩
theorem Inv.tryIn(I:Inv X pins σ H s):Inv (X.inTry (X.pn++pins) xe) [] σ H s:=⟨I.ok.tryIn,I.os,I.bare,I.base,I.loc,I.cell,I.free,I.freeC,(fun p hp=>I.pin p (by simpa using hp)),I.hok,I.len⟩
theorem Inv.tryOut{pins':List (Addr×Obj)}(k:X.Ok)(I:Inv (X.inTry (X.pn++pins) xe) pins' σ H s):Inv X pins σ H s:=⟨k,I.os,I.bare,I.base,I.loc,I.cell,I.free,I.freeC,(fun p hp=>I.pin p (List.mem_append_left _ hp)),I.hok,I.len⟩
theorem Inv.suiteIn(I:Inv X pins σ H s):Inv (X.inSuite e) pins σ H s:=⟨I.ok.suiteIn,I.os,I.bare,I.base,I.loc,I.cell,I.free,I.freeC,I.pin,I.hok,I.len⟩
theorem Inv.suiteOut(k:X.Ok)(I:Inv (X.inSuite e) pins σ H s):Inv X pins σ H s:=⟨k,I.os,I.bare,I.base,I.loc,I.cell,I.free,I.freeC,I.pin,I.hok,I.len⟩
theorem SP.out{D:Ends}{f:Flow}(k:X.Ok)(h:SP (X.inSuite e) pins D f s):SP X pins D f s:=by
 cases f with
 |next=>obtain⟨σ',H',I,q⟩:=h;exact⟨σ',H',I.suiteOut k,q⟩
 |brk=>obtain⟨σ',H',I,q⟩:=h;exact⟨σ',H',I.suiteOut k,q⟩
 |cont=>obtain⟨σ',H',I,q⟩:=h;exact⟨σ',H',I.suiteOut k,q⟩
 |ret u=>obtain⟨v,σ',H',I,q⟩:=h;exact⟨v,σ',H',I.suiteOut k,q⟩
theorem SP.outT{D:Ends}{f:Flow}(k:X.Ok)(h:SP (X.inTry (X.pn++pins) xe) [] D f s):SP X pins D f s:=by
 cases f with
 |next=>obtain⟨σ',H',I,q⟩:=h;exact⟨σ',H',I.tryOut k,q⟩
 |brk=>obtain⟨σ',H',I,q⟩:=h;exact⟨σ',H',I.tryOut k,q⟩
 |cont=>obtain⟨σ',H',I,q⟩:=h;exact⟨σ',H',I.tryOut k,q⟩
 |ret u=>obtain⟨v,σ',H',I,q⟩:=h;exact⟨v,σ',H',I.tryOut k,q⟩
noncomputable def Zbt(a C:Addr)(dx:Option Addr):Heap→Prop:=fun h=>∃o,h.get? a=some o∧o.cls= .ref C∧o.dict=dx∧PySem.W.notCls o=true
theorem Inv.track{C:Addr}(I:Inv X pins σ H s)(a:Air X pins H s e (.ref C) dx T):Inv X pins σ (upd H e (.ext (Zbt e C dx))) s:=by
 obtain⟨oe,vs,h1,h2,hdx,h3,h5⟩:=a.r.obj
 have hnc:PySem.W.notCls oe=true:=by unfold PySem.W.notCls;rw[h3]
 refine⟨I.ok,I.os,I.bare,⟨I.base.keep,I.base.slot,fun b o q n hx=>?_,I.base.there,fun b xs q=>?_,fun b o u q=>?_,fun b ps q=>?_⟩,I.loc,I.cell,?_,fun x c ec=>?_,fun p hp=>?_,fun b u q=>?_,I.len⟩
 ·rw[Zy (fun z=>by rw[z,a.e0]at q;cases q)];exact I.base.free b o q n hx
 ·have:=I.base.tups b xs q
  rw[Zy (fun z=>by rw[z,a.eH]at this;cases this)];exact this
 ·have:=I.base.frzs b o u q
  rw[Zy (fun z=>by rw[z,a.eH]at this;cases this)];exact this
 ·obtain⟨m,this⟩:=I.base.tbls b ps q
  exact⟨m,by rw[Zy (fun z=>by rw[z,a.eH]at this;cases this)];exact this⟩
 ·rw[Zy (Ne.symm a.le.1)];exact I.free
 ·rw[Zy (a.ce x c ec).1];exact I.freeC x c ec
 ·obtain⟨q,n,r⟩:=I.pin p hp
  exact⟨q,by rw[Zy (a.pe p hp).1];exact n,r⟩
 ·by_cases hb:b=e
  ·subst hb
   rw[Zab]at q;cases q
   exact⟨⟨oe,h1,h2,hdx,hnc⟩,⟨oe,h1⟩,fun g1 g2 ⟨o,z1,z2⟩ k=>⟨o,k o z1,z2⟩⟩
  ·rw[Zy hb]at q
   exact(I.hok b u q).stay (fun c v _ z=>z) (fun c z=>by rw[Zy (fun y=>by rw[y,a.eH]at z;cases z)];exact z) fun c xs z=>by rw[Zy (fun y=>by rw[y,a.eH]at z;cases z)];exact z
theorem Zgi{M:Model}{A:Around}{E:Value→Shared→Prop}{i:Nat}{n:Str}{pos:Pos}{Q:Unit→Shared→Prop}(I:Inv X pins σ H s)(hN:X.N.Nodup)(hi:X.N[i]? =some n)(hk:X.env.kindOf n=some .local)
  (h:∀s',Inv X pins (σ.set i none) H s'→Q () s'):wpAny M A (do bindName X.env n .none;unbindBehindTheSuite X.env n pos) Q E s:=by
 obtain⟨m,hn,hl⟩:=id I.loc
 have hcls:(X.env.scope.kind== .class|| (X.env.scope.kind== .module&&X.env.locals !=X.env.globals))=false:=by rw[I.ok.kind];rfl
 refine wpAny_nameGoes_keeps hk hn hcls fun h' u hn' hs=>?_
 obtain⟨oL,_,_,hoL,_⟩:=id hn
 have cne:=I.cne
 have nl:∀b o,X.s₀.heap.get? b=some o→b≠X.env.locals:=fun b o q=>Nat.ne_of_lt (Nat.lt_of_lt_of_le (Heap.lt_size q) I.ok.above)
 refine h _ ⟨I.ok,I.os,I.bare,⟨fun b o q n hb hx=>?_,fun b o q n hb hx=>?_,I.base.free,fun b o q hx=>?_,I.base.tups,I.base.frzs,I.base.tbls⟩,⟨_,hn',fun j y v' e1 e2 e3=>?_⟩,fun y c ec=>?_,I.free,I.freeC,fun p hp=>?_,fun b ob q=>?_,by simpa using I.len⟩
 ·exact(hs.2 b (nl b o q)).trans (I.base.keep b o q n hb hx)
 ·obtain⟨sl,e1⟩:=I.base.slot b o q n hb hx
  exact⟨sl,(hs.2 b (nl b o q)).trans e1⟩
 ·obtain⟨o',e1⟩:=I.base.there b o q hx
  exact⟨o',(hs.2 b (nl b o q)).trans e1⟩
 ·by_cases hj:j=i
  ·subst hj
   have:j<σ.length:=by
    have:=(List.getElem?_eq_some_iff.mp e2).1
    simpa using this
   rw[List.getElem?_set_self this]at e2;cases e2
  ·rw[List.getElem?_set_ne (Ne.symm hj)]at e2
   obtain⟨u',r',q⟩:=hl j y v' e1 e2 e3
   refine⟨u',r',?_⟩
   rcases q with⟨k,z⟩|⟨k,c,z,z'⟩
   ·refine .inl ⟨k,?_⟩
    have:y≠n:=fun z=>hj (Zge hN e1 (z▸hi))
    simp[this,z]
   ·exact .inr ⟨k,c,z,z'.sameBut hs (cne y c z)⟩
 ·obtain⟨w',z⟩:=I.cell y c ec
  exact⟨w',z.sameBut hs (cne y c ec)⟩
 ·obtain⟨q,n,ne,nf,d⟩:=I.pin p hp
  exact⟨(hs.2 p.1 ne).trans q,n,ne,nf,d⟩
 ·refine(I.hok b ob q).stay (fun c w' hc z=>(hs.2 c ?_).trans z) (fun _ z=>z) fun _ _ z=>z
  rintro rfl
  rcases hc with hc|hc
  ·rw[←hc,I.free]at q;cases q
  ·rw[I.free]at hc;cases hc
end
end L2
namespace L2
open PySem PySem.Spec PyProof.Rows
theorem Zhq{M:Model}{A:Around}{E:Value→Shared→Prop}{s:Shared}{K:PySem.W.Frag}{e C B:Addr}{b:Bool}{Q:Bool→Shared→Prop}(X:K.In s.heap){dx:Option Addr}(he:Zbt e C dx s.heap)(hty:PySem.W.typeIn K (.ref B)=some (.type "type"))
  (hcl:PySem.W.isClsIn K B=true) (hB:PySem.W.mroIn K B (.type "BaseException")=some true) (hm:PySem.W.mroIn K C (.ref B)=some b) (h:Q b s):wpAny M A (excMatches (.ref e) (.ref B)) Q E s:=by
 obtain⟨hp,g,d,tk,os⟩:=s
 obtain⟨o,h1,h2,_⟩:=he
 have lt:PySem.W.Looks M hp (typeOf (.ref B)) (.type "type"):=PySem.W.looks_typeIn X hty
 have li:PySem.W.Looks M hp (isType (.ref B)) true:=by
  unfold PySem.W.isClsIn PySem.W.clsIn at hcl
  split at hcl
  ·rename_i ho
   intro A' Q' E' s' k q
   unfold isType loadHead
   exact wpAny_bind (wpAny_loadPart (k _ _ (X _ _ ho)) (wpAny_pure q))
  ·cases hcl
 have lb:=PySem.W.looks_mroIn (M:=M) X hB
 have lm:=PySem.W.looks_mroIn (M:=M) X hm
 have le:PySem.W.Looks M hp (typeOf (.ref e)) (.ref C):=h2▸(PySem.W.Looks.ld h1).andThen .now
 have lx:PySem.W.Looks M hp (isExcClass (.ref B)) true:=by
  unfold isExcClass
  exact li.andThen lb
 have l0:PySem.W.Looks M hp (isInstance (.ref B) (.type "tuple")) false:=by
  unfold isInstance
  exact lt.andThen (.of_pure tc_notTuple)
 unfold excMatches
 refine wpAny_bind (l0.at ?_)
 dsimp only
 rw[if_neg Bool.false_ne_true]
 refine wpAny_bind (wpAny_pure ?_)
 refine wpAny_bind ?_
 rw[List.forIn_cons]
 refine wpAny_bind (wpAny_bind (lx.at ?_))
 rw[if_neg (by decide)]
 refine wpAny_pure ?_
 dsimp only
 rw[List.forIn_nil]
 refine wpAny_pure ?_
 refine wpAny_bind (le.at ?_)
 refine wpAny_bind ?_
 rw[List.forIn_cons]
 refine wpAny_bind (wpAny_bind (lm.at ?_))
 cases b with
 |true=>
  rw[if_pos rfl]
  exact wpAny_pure (wpAny_pure (wpAny_pure h))
 |false=>
  rw[if_neg Bool.false_ne_true]
  refine wpAny_pure ?_
  dsimp only
  rw[List.forIn_nil]
  exact wpAny_pure (wpAny_pure h)
set_option genInjectivity false in
structure Hd where
 x:Str
 np:Pos
 nm:Option (Str×Nat)
 b0:Stmt
 suite:List Stmt
 pos:Pos
 B:Addr
 t:TS
noncomputable def Hd.ast(h:Hd):ExceptHandler:=.ExceptHandler (some (.Name h.x h.np)) (h.nm.map (·.1)) (h.b0::h.suite) h.pos
noncomputable def Ends.but(D:Ends)(i:Nat):Ends:={nx:=fun σ H=>D.nx (σ.set i none) H,bk:=fun σ H=>D.bk (σ.set i none) H,ct:=fun σ H=>D.ct (σ.set i none) H,rt:=D.rt}
noncomputable def Hd.run(h:Hd)(C:Addr)(dx:Option Addr)(D:Ends)(σ:St)(H:Hp):Prop:=match h.nm with
 |none=>h.t D σ H
 |some (_,i)=>∀a,H a=none→h.t (D.but i) (σ.set i (some (.ref a))) (upd H a (.ext (Zbt a C dx)))
noncomputable def Zk2(K:PySem.W.Frag)(C:Addr):List Hd→Option Hd
 | []=>none
 |h::r=>match PySem.W.mroIn K C (.ref h.B)with
  |some true=>some h
  |some false=>Zk2 K C r
  |none=>none
set_option genInjectivity false in
structure Hd.Ok(X:Cx)(h:Hd):Prop where
 gl:Gl X h.x
 mg:X.mg h.x=some (.ref h.B)
 ty:PySem.W.typeIn X.K (.ref h.B)=some (.type "type")
 cl:PySem.W.isClsIn X.K h.B=true
 bs:PySem.W.mroIn X.K h.B (.type "BaseException")=some true
 db:(h.x==("__debug__":Str))=false
 nm:∀n i,h.nm=some (n,i)→X.N.Nodup∧X.N[i]? =some n∧Loc X.env.scope n∧X.env.kindOf n=some .local∧X.env.scope.names.lookup n=some .local
 su:∀a,PSs (X.inSuite a) (h.b0::h.suite) h.t
section
variable{X:Cx}{pins:List (Addr×Obj)}{σ:St}{H:Hp}{s:Shared}{e T C:Addr}{dx:Option Addr}{D:Ends}
theorem Air.at'(a:Air X pins H s e (.ref C) dx T):Zbt e C dx s.heap:=by
 obtain⟨oe,vs,h1,h2,h3,h4,_⟩:=a.r.obj
 exact⟨oe,h1,h2,h3,by unfold PySem.W.notCls;rw[h4]⟩
theorem Zhr(hex:X.ex=[])(hst:X.stack=X.env::X.outer)(hfr:X.env.frame=some X.env.locals){h:Hd}(I:Inv X pins σ H s)(a:Air X pins H s e (.ref C) dx T)(q:h.run C dx D σ H):
  ∀{hs:List Hd},(∀h∈hs,h.Ok X)→Zk2 X.K C hs=some h→wpAny (model X.prog X.w) X.A (handleBy (.ref e) X.env (hs.map Hd.ast)) (SP X pins D) X.xe s
 | [],_,p=>nomatch p
 |g::r,ok,p=>by
  have kg:=ok g List.mem_cons_self
  show wpAny _ _ (handleBy (.ref e) X.env (.ExceptHandler (some (.Name g.x g.np)) (g.nm.map (·.1)) (g.b0::g.suite) g.pos::r.map Hd.ast)) _ _ s
  have Is:Inv (X.inSuite e) pins σ H s:=I.suiteIn
  refine wpAny_handleBy_cons (codeAny_handlers_test (Zfc (X:=X.inSuite e) Is kg.gl kg.mg ?_ kg.db)) (by intro z;cases z)
  unfold Zk2 at p
  split at p
  ·rename_i hm
   cases p
   refine Zhq I.kIn a.at' kg.ty kg.cl kg.bs hm ?_
   show codeAny _ _ _ _ s
   unfold Hd.run at q
   split at q
   ·rename_i hn
    rw[hn]
    refine codeAny_handlers_suite ?_
    refine(Zch (M:=model X.prog X.w) (A:=X.A.mark (some (.ref e))) I a hex I.ok.frames hst hfr fun h' T' I' a'=>?_).2
    refine wpAny_mono (kg.su e pins _ σ H D I'.suiteIn q) (fun f s2 z=>?_) fun _ _ z=>z.elim
    exact SP.out I.ok z
   ·rename_i n i hn
    rw[hn]
    obtain⟨n1,n2,n3,n4,n5⟩:=kg.nm n i hn
    refine codeAny_handlers_suite_as ?_
    refine(Zch (M:=model X.prog X.w) (A:=X.A.mark (some (.ref e))) I a hex I.ok.frames hst hfr fun h' T' I' a'=>?_).2
    refine Ze5 (X:=X.inSuite e) (v:=.ref e) (i:=i) (I'.track a').suiteIn n1 n2 n3 rfl (fun s2 I2=>?_) (.inr n5)
    refine wpAny_mono (kg.su e pins _ _ _ (D.but i) I2 (q e a.eH)) (fun f s3 z=>?_) fun _ _ z=>z.elim
    show wpAny _ X.A _ _ _ s3
    cases f with
    |next=>
     obtain⟨σ',H',I3,z⟩:=z
     exact Zgi (I3.suiteOut I.ok) n1 n2 n4 fun s4 I4=>⟨_,H',I4,z⟩
    |brk=>
     obtain⟨σ',H',I3,z⟩:=z
     exact Zgi (I3.suiteOut I.ok) n1 n2 n4 fun s4 I4=>⟨_,H',I4,z⟩
    |cont=>
     obtain⟨σ',H',I3,z⟩:=z
     exact Zgi (I3.suiteOut I.ok) n1 n2 n4 fun s4 I4=>⟨_,H',I4,z⟩
    |ret u=>
     obtain⟨v,σ',H',I3,z⟩:=z
     exact Zgi (I3.suiteOut I.ok) n1 n2 n4 fun s4 I4=>⟨v,_,H',I4,z⟩
  ·rename_i hm
   refine Zhq I.kIn a.at' kg.ty kg.cl kg.bs hm ?_
   exact Zhr hex hst hfr I a q (fun h hh=>ok h (List.mem_cons_of_mem _ hh)) p
  ·cases p
noncomputable def tTry(K:PySem.W.Frag)(tb:EXT→TS)(hs:List Hd):TS:=fun D σ H=>tb (fun cls dx σ' H'=>∃C h,cls= .ref C∧Zk2 K C hs=some h∧h.run C dx D σ' H') D σ H
theorem Zvi{body:List Stmt}{tb:EXT→TS}{h0:Hd}{hs:List Hd}{pos:Pos}(hb:∀pn xe EX,Zdq (X.inTry pn xe) EX→PSs (X.inTry pn xe) body (tb EX))(ok:∀h∈h0::hs,h.Ok X)(hex:X.ex=[])
  (hst:X.stack=X.env::X.outer) (hfr:X.env.frame=some X.env.locals):PS X (.Try body ((h0::hs).map Hd.ast) [] [] pos) (tTry X.K tb (h0::hs)):=by
 intro pins s σ H D I h
 refine wpAny_Try_except (h₀:=h0.ast) (hs:=hs.map Hd.ast) ?_
 refine wpAny_mono (hb (X.pn++pins) _ _ ?_ [] s σ H D I.tryIn h) (fun f s1 z=>?_) fun _ _ z=>z
 ·intro pins' σ' H' s' e cls dx T I' r e0 eH t0 tH pe le ce ⟨C,g,ec,hp,q⟩
  subst ec
  have I2:Inv X pins σ' H' s':=I'.tryOut I.ok
  have a:Air X pins H' s' e (.ref C) dx T:=⟨r,e0,eH,t0,tH,fun p hp=>pe p (List.mem_append_left _ hp),le,ce⟩
  exact(Zch (M:=model X.prog X.w) (A:=X.A) I2 a hex I.ok.frames hst hfr fun h' T' I3 a3=>Zhr hex hst hfr I3 a3 q ok hp).1
 ·have z':=SP.outT I.ok z
  cases f with
  |next=>exact PySem.wpAny_execs_nil z'
  |brk=>exact z'
  |cont=>exact z'
  |ret u=>exact z'
end
end L2
namespace L2
open PySem PySem.Spec PySem.Calls PyProof.Rows Builtin.ObjectAttr Builtin.Getset_descriptor
structure ExcKit(K:PySem.W.Frag)(C:Addr):Prop where
 cl:PySem.W.isClsIn K C=true
 ga:PySem.W.findIn K (.ref C) "__getattribute__"=some (some (.builtin "BaseException.__getattribute__"))
 gt:PySem.W.findIn K (.ref C) "__getattr__"=some none
 ca:PySem.W.findIn K (.ref C) "__class__"=some (some (.builtin "object.__class__"))
 gs:PySem.W.specialIn K (.builtin "object.__class__") "__get__"=some (some (.builtin "getset_descriptor.__get__"))
 tk:PySem.W.takesIn K (.builtin "object.__class__")=some true
 ob:PySem.W.mroIn K C (.type "object")=some true
 be:PySem.W.mroIn K C (.type "BaseException")=some true
section
variable{prog:Program}{w:World}{A:Around}{E:Value→Shared→Prop}{s:Shared}{K:PySem.W.Frag}{x C:Addr}{dx:Option Addr}
theorem Zd4{M:Model}{h:Heap}(p:Zbt x C dx h):PySem.W.Looks M h (typeOf (.ref x)) (.ref C):=by
 obtain⟨o,h1,h2,_⟩:=p
 exact h2▸(PySem.W.Looks.ld h1).andThen .now
theorem Zo6{M:Model}{h:Heap}(X:K.In h)(k:ExcKit K C):PySem.W.Looks M h (find (.ref x) (.ref C) "__class__") (.bind (.builtin "getset_descriptor.__get__") (.builtin "object.__class__")):=by
 have l1:=PySem.W.looks_findIn (M:=M) X k.ca
 have l2:PySem.W.Looks M h (getOf (some (.builtin "object.__class__"))) (some (.builtin "getset_descriptor.__get__")):=PySem.W.looks_specialIn X k.gs
 have l3:=PySem.W.looks_takesIn (M:=M) X k.tk
 have l4:PySem.W.Looks M h (dataDescriptor? (some (.builtin "object.__class__")) (some (.builtin "getset_descriptor.__get__"))) (some (.builtin "getset_descriptor.__get__",.builtin "object.__class__")):=l3.andThen .now
 exact l1.andThen (l2.andThen (l4.andThen (PySem.W.Looks.tag .now)))
theorem Zse{R:Result→Shared→Prop}{tp:Value}(X:K.In s.heap)(p:Zbt x C dx s.heap)(k:ExcKit K C)(h:R (.ok (.ret (.ref C))) s):
  codeAny (model prog w) A (.call (.builtin "getset_descriptor.__get__") ⟨[.builtin "object.__class__",.ref x,tp],[]⟩) R s:=by
 obtain⟨hh,g,dr,t,os⟩:=s
 have l0:=Zd4 (M:=model prog w) p
 have l1:=PySem.W.looks_mroIn (M:=model prog w) X k.ob
 refine codeAny_call_builtin PySem.W.KF.slot_gs.plain
  PySem.W.KF.entry_gs (PySem.W.KF.slot_gs.check _ _ _ _ _ _ _ _
   PySem.W.KF.type_class (PySem.W.KF.args_gs _ _ _) ?_)
 unfold Builtin.«getset_descriptor.__get__» descrGet
 rw[PySem.W.dga_obj]
 refine wpAny_bind (wpAny_pure ?_)
 unfold descrGetter descrCheckInstance descrNameAndClass isInstance
 simp only[PySem.W.KF.owner_class]
 repeat lk
 refine⟨Code.quiet_builtin _ (by decide+kernel),
  codeAny_builtin PySem.W.KF.entry_class ?_⟩
 unfold Builtin.«object.__class__» shownTypeOf
 repeat lk
 exact h
theorem Zmf{tk:Tok}{Q:Fin→Shared→Prop}(X:K.In s.heap)(p:Zbt x C dx s.heap)(k:ExcKit K C)(h:Q (.done (.ret (.ref C))) s):
  wpAny (model prog w) A (Builtin.«object.__getattribute__» ⟨[.ref x,.str "__class__" tk],[]⟩) Q E s:=by
 obtain⟨hh,g,dr,t,os⟩:=s
 have l0:=Zd4 (M:=model prog w) p
 have l1:=Zo6 (M:=model prog w) (x:=x) X k
 refine wpAny_bind (wpAny_pure (wpAny_bind (wpAny_pure (wpAny_bind (l0.at (wpAny_bind (l1.at ?_)))))))
 show wpAny _ _ (holding [.builtin "object.__class__"] (call (.builtin "getset_descriptor.__get__") [.builtin "object.__class__",.ref x,.ref C]) >>=ret) _ _ _
 exact wpAny_bind (wpAny_holding (wpAny_call (Zse (s:=⟨hh,g,dr,t,os⟩) X p k (wpAny_pure h))))
theorem Zmg{M:Model}{nv:Value}{Q:Unit→Shared→Prop}(X:K.In s.heap)(p:Zbt x C dx s.heap)(k:ExcKit K C)(h:Q () s):wpAny M A (checkBuiltinCall "BaseException.__getattribute__" ⟨[.ref x,nv],[]⟩) Q E s:=by
 obtain⟨hh,g,dr,t,os⟩:=s
 have l0:=Zd4 (M:=M) p
 have l1:=PySem.W.looks_mroIn (M:=M) X k.be
 have li:PySem.W.Looks M hh (isInstance (.ref x) (.type "BaseException")) true:=l0.andThen l1
 have e1:builtinKind "BaseException.__getattribute__"=some .slot:=by decide+kernel
 have e2:splitId "BaseException.__getattribute__"=some ("BaseException","__getattribute__"):=by decide+kernel
 have e3:=PySem.F.args_bexc_ga (.ref x) nv
 simp only[checkBuiltinCall,e1,e2]
 refine wpAny_bind (li.at ?_)
 rw[if_neg (by decide)]
 unfold argsOk at e3
 split
 ·rename_i sig hs
  rw[hs]at e3
  have e4:Bind.checkArgs "BaseException.__getattribute__" sig {pos:=[Value.ref x,nv]}=pure ():=e3
  rw[e4]
  exact wpAny_pure h
 ·exact wpAny_pure h
theorem Zmh{Q:Option Value→Shared→Prop}(X:K.In s.heap)(p:Zbt x C dx s.heap)(k:ExcKit K C)(h:Q (some (.ref C)) {s with toks:=s.toks+1}):wpAny (model prog w) A (getAttr? (.ref x) "__class__") Q E s:=by
 obtain⟨hh,g,d,t,os⟩:=s
 have l0:=Zd4 (M:=model prog w) p
 have l1:=PySem.W.looks_findIn (M:=model prog w) X k.ga
 have l2:=PySem.W.looks_findIn (M:=model prog w) X k.gt
 unfold getAttr? getAttrBy? getAttrBy
 refine wpAny_bind (wpAny_mkText (wpAny_bind (wpAny_attempt (wpAny_holding (wpAny_bind (l0.at (wpAny_bind (l1.at ?_))))))))
 dsimp only
 have hb:(Value.builtin "BaseException.__getattribute__"==Value.builtin "object.__getattribute__")=false:=by decide+kernel
 rw[if_neg (by rw[hb,Bool.and_false];exact Bool.false_ne_true)]
 unfold getAttrByItsOwn hookBefore
 refine wpAny_bind ?_
 rw[if_pos (show onTheHeap (Value.ref C)=true from rfl)]
 refine l2.at ?_
 refine wpAny_bind (wpAny_attempt (wpAny_holding ?_))
 unfold callGetattribute
 rw[if_neg (by decide)]
 unfold boundAndCalled
 rw[PySem.F.excAttr_ValueError.ga.bind (.ref x)]
 refine wpAny_bind (wpAny_pure ?_)
 refine wpAny_call (codeAny_call_builtin PySem.F.excAttr_ValueError.ga.plain PySem.F.entry_bexc_ga (Zmg X p k (Zmf (s:=⟨hh,g,d,t+1,os⟩) X p k ?_)))
 show wpAny (model prog w) A (handedOut (.ref C)) _ _ _
 exact wpAny_pure (wpAny_pure h)
theorem Zjq(k:ExcKit K C):PySem.W.KitX K (.ref x) (.ref C) (Zbt x C dx)where
 ty:=fun M h _ p=>Zd4 p
 it:=fun _ _ X _=>by
  have hc:=k.cl
  unfold PySem.W.isClsIn PySem.W.clsIn at hc
  split at hc
  ·rename_i ho
   intro A' Q' E' s' kk q
   unfold isType loadHead
   exact wpAny_bind (wpAny_loadPart (kk _ _ (X _ _ ho)) (wpAny_pure q))
  ·cases hc
 ne:=fun h tp dd its n sl X htp=>by
  have hc:=k.cl
  refine Bool.eq_false_iff.mpr fun q=>?_
  have e:C=tp:=Value.ref.inj (beq_iff_eq.mp q)
  subst e
  unfold PySem.W.isClsIn PySem.W.clsIn at hc
  split at hc
  ·rename_i ho
   have z:=(X _ _ ho).symm.trans htp
   cases z
  ·cases hc
 ca:=fun X p kk=>Zmh X p k kk
end
section
variable{X:Cx}
noncomputable def rIsX(K:PySem.W.Frag)(c:V)(cv:Value):List V→Hp→VK→Prop:=fun xs H Q=>∃a C dx b,xs=[.ref a,c]∧H a=some (.ext (Zbt a C dx))∧ExcKit K C∧PySem.W.kitOne K (.ref C) cv=some b∧Q (.bl b) H
theorem Zjr{c:V}{cv:Value}(hc:∀u,RelV c u→u=cv):Zcx X (.builtin "isinstance") (rIsX X.K c cv):=by
 intro pins s σ H xs us Q I r h
 obtain⟨a,C,dx,b,rfl,ha,k,e,q⟩:=h
 obtain⟨u,w',rfl,r1,r2⟩:=Zox r
 cases r1
 cases hc _ r2
 have p:Zbt a C dx s.heap:=(I.hok a _ ha).1
 exact PySem.W.kia_one (Zjq k) I.kIn p e (fun z=>nomatch z) fun tk=>⟨.bl b,H,I.tok _,rfl,q⟩
noncomputable def Zzi(K:PySem.W.Frag)(Bs:List Addr):List V→Hp→VK→Prop:=fun xs H Q=>∃a C dx p b,xs=[.ref a,.ref p]∧H a=some (.ext (Zbt a C dx))∧ExcKit K C∧H p=some (.tup (Bs.map V.ref))∧PySem.W.kitAny K (.ref C) (Bs.map Value.ref)=some b∧Q (.bl b) H
theorem Zmi:∀{Bs:List Addr} {us:List Value},Vals (Bs.map V.ref) us→us=Bs.map Value.ref
 | [],_,r=>by rw[List.map_nil]at r;cases r;rfl
 |B::Bs,_,r=>by
  rw[List.map_cons]at r
  cases r with
  |cons h t=>rw[show _=Value.ref B from h,Zmi t];rfl
theorem Zmj{Bs:List Addr}:Zcx X (.builtin "isinstance") (Zzi X.K Bs):=by
 intro pins s σ H xs us Q I r h
 obtain⟨a,C,dx,p,b,rfl,ha,k,hp,e,q⟩:=h
 obtain⟨u,w',rfl,r1,r2⟩:=Zox r
 cases r1
 cases r2
 have pa:Zbt a C dx s.heap:=(I.hok a _ ha).1
 obtain⟨_,its,rv,⟨o,h1,h2,n,h3⟩⟩:=(show Zcw X.prog X.w H s.heap p (.tup (Bs.map V.ref))from I.hok p _ hp)
 have ei:=Zmi rv
 subst ei
 obtain⟨oc,od,oda,osl⟩:=o
 dsimp only at h2 h3
 subst h2 h3
 exact PySem.W.kia_tup (Zjq k) I.kIn pa h1 e (fun z=>nomatch z) fun tk=>⟨.bl b,H,I.tok _,rfl,q⟩
end
end L2
namespace L2
open PySem PySem.Spec PyProof.Rows
section
variable{X:Cx}{pins:List (Addr×Obj)}{σ:St}{H:Hp}{s s':Shared}
end
noncomputable abbrev Cx.blockX(X:Cx)(N':List Str)(scope:Scope)(C:Addr)(s₀:Shared)(H₀:Hp)(ex:List Addr)(xe:Value→Shared→Prop):Cx:=
 {X with N:=N',env:=compEnvC scope (clOf X.env.cells scope.names []) C X.env,s₀:=s₀,H₀:=H₀,outer:=X.stack,stack:=X.stack,ex:=ex,fn:=fun _=>false,pn:=[],xe:=xe}
section
variable{X:Cx}{N':List Str}{scope:Scope}{src:List BSrc}{pins:List (Addr×Obj)}{σ:St}{H:Hp}{s:Shared}{C acc:Addr}{fp:List Addr}
noncomputable def Z2e(src:List BSrc)(wi:TI)(g:TG)(tt:TT)(te:EXT→TE)(EX:EXT):TE:=fun σ H Q=>wi σ H fun J H1=>∀acc,H1 acc=none→
 ∃W:Nat→Nat→St→Hp→Prop,(∃m,W 0 m (bSt src σ acc) (upd H1 acc (.lst [])))∧∀i m σ' H,W i m σ' H→(J.stop i H∧Q (.ref acc) H)∨
  (J.go i H∧∀x H',J.yld i H x H'→g x σ' H' fun σ2 H2=>tt σ2 H2 fun b H3=>if b=true then te (fun cls od _ H'=>EX cls od σ H') σ2 H3 fun y H4=>Zcz (.ref acc) [y] H4 fun _ H5=>∃m',m'<m∧W (i+1) m' σ2 H5 else∃m',m'<m∧W (i+1) m' σ2 H3)
end
end L2
namespace PySem
open Sem (wp)
section
variable{prog:Program}{w:World}{A:Around}{E:Value→Shared→Prop}{h:Heap}{g:Array GenState}{d:Drawn}{t:Nat}{os:OsState}
variable{nm q:Str}{C N fI:Addr}{oI:Obj}{bs bm bmB bmN:List Value}{hdct:Bool}{sn:List Str}{sub:List Value}{ab:Bool}{col:Option Bool}{dd:Option Addr}{k0 k1 k2 k3 k5:Option Value}{B Bn newId nid initId inN:String}{mN:Str→Option Value}{rest:List Value}
end
section
variable{prog:Program}{w:World}{A:Around}{E:Value→Shared→Prop}{s:Shared}{env:Env}
variable{nm q:Str}{C N fI:Addr}{bs bm bmB bmN:List Value}{hdct:Bool}{sn:List Str}{sub:List Value}{ab:Bool}{col:Option Bool}{dd:Option Addr}{k0 k1 k2 k3 k5:Option Value}{B Bn newId nid initId inN:String}{mN:Str→Option Value}
end
end PySem
namespace L2
open PySem PySem.Spec PySem.Calls PyProof.Rows Builtin.ObjectAttr
noncomputable def Zqn:List Value→Bool
 | .ref _::r=>Zqn r
 |l=>l==VEB
structure ExcSet(K:PySem.W.Frag)(C:Addr)(name:Str):Prop where
 sa:PySem.W.findIn K (.ref C) "__setattr__"=some (some (.builtin "object.__setattr__"))
 ob:PySem.W.mroIn K C (.type "object")=some true
 na:PySem.W.findIn K (.ref C) name=some none
 mr:((PySem.W.clsIn K C).any fun cd=>Zqn cd.mro&&cd.hasDict)=true
noncomputable def Zeu(a C:Addr)(dx:Option Addr):Heap→Prop:=fun h=>∃o t,h.get? a=some o∧o.cls= .ref C∧o.dict=dx∧o.data= .fields #[.ref t,.none,.none,.none,.bool false,.none]
section
variable{prog:Program}{w:World}{A:Around}{E:Value→Shared→Prop}{s:Shared}{K:PySem.W.Frag}{x C:Addr}{name:Str}{v:Value}
end
end L2
namespace L2
open PySem PySem.Spec PyProof.Rows
noncomputable def Z2f(K:PySem.W.Frag)(C f:Addr):Bool:=match K.lookup C with
 |some ⟨.type "type",_,.cls cd,sl⟩=>(match cd.mro,sl.toList with
  | .ref B::r,[_,_,_,_,some (.builtin i),_]=>B==C&&i=="ValueError.__new__" && !cd.hasDel&&PySem.W.tailIn K VEB r&&PySem.W.nsOkIn K cd.ns&&PySem.W.nsIn K cd.ns "__init__"==some (some (.ref f))
  |_,_=>false)
 |_=>false
noncomputable def Zzj(C f:Addr)(h:Heap):Prop:=∃(bm:List Value) (N:Addr) (nm q:Str) (bs:List Value) (hdct:Bool) (sn:List Str) (sub:List Value) (ab:Bool) (col:Option Bool) (dd:Option Addr) (k0 k1 k2 k3 k5:Option Value) (mN:Str→Option Value),
 h.get? C=some (excClassObj nm q C N bs bm hdct sn sub ab col dd k0 k1 k2 k3 k5 "ValueError.__new__")∧h.Ns N mN∧mN "__init__"=some (.ref f)∧OwnTail h VEB bm
noncomputable def drop(H:Hp)(e:Addr):Hp:=fun b=>if b=e then none else H b
section
variable{X:Cx}{pins:List (Addr×Obj)}{σ:St}{H:Hp}{s:Shared}{e C:Addr}
end
structure ExcGet(K:PySem.W.Frag)(C:Addr)(f:Str):Prop where
 kit:ExcKit K C
 na:PySem.W.findIn K (.ref C) f=some none
 mr:((PySem.W.clsIn K C).any fun cd=>cd.hasDict)=true
noncomputable def Z2g(K:PySem.W.Frag)(ta:TE)(f:Str):TE:=fun σ H Q=>ta σ H fun x H1=>∃a C dx fs v,x= .ref a∧H1 a=some (.ext (Zbt a C (some dx)))∧H1 dx=some (.xd fs)∧ExcGet K C f∧fs.lookup f=some v∧Q v H1
section
variable{X:Cx}{e o value:Expr}{f:Str}{pos pos':Pos}{ta tv:TE}
noncomputable def Z2h(K:PySem.W.Frag)(ta tv:TE)(f:Str):TS:=fun D σ H=>tv σ H fun y H1=>ta σ H1 fun x H2=>∃a C,x= .ref a∧H2 a=some (.ext (Zeu a C none))∧ExcSet K C f∧
 ∀dx,H2 dx=none→D.nx σ (upd (upd H2 dx (.xd [(f,y)])) a (.ext (Zeu a C (some dx))))
end
noncomputable def Zzk(EX:XK)(C:Addr)(sp:Sp)(t:TA):TS:=fun _ σ H=>t σ H fun vs H1=>vs.length≤sizeLine∧∀e,H1 e=none→sp (.ref e::vs) (upd H1 e (.ext (Zeu e C none))) (fun v H2=>v= .non∧∃dx,H2 e=some (.ext (Zeu e C dx))∧EX (.ref C) dx (drop H2 e)) E0
end L2
namespace DL
open PySem L2
variable{K:PySem.W.Frag}
inductive D where
 |non|bl (b:Bool)|int (i:Int)|str (x:Str)
 |tup (xs:List D)|lst (xs:List D)
 |dK (ks:List Key) (vs:List D)|dT (ks:List (List Key)) (vs:List D)
 |exc (c:Str) (ks:List Str) (vs:List D)
noncomputable def Zci(K:PySem.W.Frag)(c:Str)(C:Addr):Prop:=PySem.W.nsIn K mainGlobals c=some (some (.ref C))
noncomputable def KB(F:Hp)(kvs:List (List Key×V))(bs:List Addr):Prop:=Paired (fun(p:List Key×V) (b:Addr)=>F b=some (.tup (p.1.map kV))) kvs bs
mutual
inductive Rep(K:PySem.W.Frag)(F:Hp):D→V→Prop where
 |non:Rep K F .non .non
 |bl (b:Bool):Rep K F (.bl b) (.bl b)
 |int (i:Int):Rep K F (.int i) (.int i)
 |str (x:Str):Rep K F (.str x) (.str x)
 |tup {a:Addr} {xs:List D} {vs:List V} (h:F a=some (.tup vs)) (r:Reps K F xs vs):Rep K F (.tup xs) (.ref a)
 |lst {a:Addr} {xs:List D} {vs:List V} (h:SqL K F a vs) (r:Reps K F xs vs):Rep K F (.lst xs) (.ref a)
 |dK {a:Addr} {ks:List Key} {ds:List D} {kvs:List (Key×V)} {ep:Nat} (h:F a=some (.dK kvs ep)) (e:kvs.map (·.1)=ks) (r:Reps K F ds (kvs.map (·.2))):Rep K F (.dK ks ds) (.ref a)
 |dT {a:Addr} {ks:List (List Key)} {ds:List D} {kvs:List (List Key×V)} {ep:Nat} {bs:List Addr} (h:F a=some (.dT kvs ep bs)) (kb:KB F kvs bs) (e:kvs.map (·.1)=ks) (r:Reps K F ds (kvs.map (·.2))):Rep K F (.dT ks ds) (.ref a)
 |exc {a C:Addr} {c:Str} (cl:Zci K c C) (h:F a=some (.ext (Zbt a C none))):Rep K F (.exc c [] []) (.ref a)
 |exd {a C dx:Addr} {c:Str} {ks:List Str} {ds:List D} {fs:List (Str×V)} (cl:Zci K c C) (h:F a=some (.ext (Zbt a C (some dx)))) (hx:F dx=some (.xd fs)) (e:fs.map (·.1)=ks) (r:Reps K F ds (fs.map (·.2))):Rep K F (.exc c ks ds) (.ref a)
inductive Reps(K:PySem.W.Frag)(F:Hp):List D→List V→Prop where
 |nil:Reps K F [] []
 |cons {d:D} {v:V} {ds:List D} {vs:List V} (h:Rep K F d v) (t:Reps K F ds vs):Reps K F (d::ds) (v::vs)
end
theorem KB.mono{F F':Hp}(s:Same F F'){kvs:List (List Key×V)}{bs:List Addr}(h:KB F kvs bs):KB F' kvs bs:=Paired.mapP h fun _ _ z=>s _ _ z
theorem Zqo{F F':Hp}(s:Same F F'){a:Addr}{u:HO}(h:Rd F a u):Rd F' a u:=by
 rcases h with h|⟨o,h⟩
 ·exact .inl (s _ _ h)
 ·exact .inr ⟨o,s _ _ h⟩
theorem Zb0{F F':Hp}(s:Same F F'){a:Addr}{xs:List V}(h:SqL K F a xs):SqL K F' a xs:=by
 rcases h with h|h
 ·exact .inl (Zqo s h)
 ·exact .inr h
theorem Zcj{F F':Hp}(s:Same F F'){a:Addr}{xs:List V}(h:SqT K F a xs):SqT K F' a xs:=by
 rcases h with h|h
 ·exact .inl (Zqo s h)
 ·exact .inr h
theorem Zix{F:Hp}{a:Addr}{vs:List V}(h:F a=some (.tup vs)):SqT K F a vs:=.inl (.inl h)
mutual
theorem Rep.mono{F F':Hp}(s:Same F F'):∀{d:D} {v:V},Rep K F d v→Rep K F' d v
 |_,_,.non=>.non
 |_,_,.bl b=>.bl b
 |_,_,.int i=>.int i
 |_,_,.str x=>.str x
 |_,_,.tup h r=>.tup (s _ _ h) (Reps.mono s r)
 |_,_,.lst h r=>.lst (Zb0 s h) (Reps.mono s r)
 |_,_,.dK h e r=>.dK (s _ _ h) e (Reps.mono s r)
 |_,_,.dT h kb e r=>.dT (s _ _ h) (kb.mono s) e (Reps.mono s r)
 |_,_,.exc cl h=>.exc cl (s _ _ h)
 |_,_,.exd cl h hx e r=>.exd cl (s _ _ h) (s _ _ hx) e (Reps.mono s r)
theorem Reps.mono{F F':Hp}(s:Same F F'):∀{ds:List D} {vs:List V},Reps K F ds vs→Reps K F' ds vs
 |_,_,.nil=>.nil
 |_,_,.cons h t=>.cons (Rep.mono s h) (Reps.mono s t)
end
theorem Reps.length{F:Hp}{ds:List D}:∀{vs:List V},Reps K F ds vs→ds.length=vs.length:=by
 induction ds with
 |nil=>intro vs h;cases h;rfl
 |cons d ds ih=>
  intro vs h
  cases h with
  |cons _ t=>rw[List.length_cons,List.length_cons,ih t]
theorem Reps.append{F:Hp}{ds es:List D}{vs us:List V}(h:Reps K F ds vs)(q:Reps K F es us):Reps K F (ds++es) (vs++us):=by
 induction ds generalizing vs with
 |nil=>cases h;exact q
 |cons d ds ih=>
  cases h with
  |cons h t=>exact .cons h (ih t)
theorem Reps.snoc{F:Hp}{ds:List D}{vs:List V}{d:D}{v:V}(r:Reps K F ds vs)(h:Rep K F d v):Reps K F (ds++[d]) (vs++[v]):=r.append (.cons h .nil)
theorem Reps.get{F:Hp}:∀{ds:List D} {vs:List V} {i:Nat} {d:D},Reps K F ds vs→ds[i]? =some d→∃v,vs[i]? =some v∧Rep K F d v
 |_,_,_,_,.nil,e=>by simp at e
 |_,_,0,_,.cons h t,e=>by simp at e;subst e;exact⟨_,rfl,h⟩
 |_,_,i+1,d,.cons h t,e=>by
  obtain⟨v,h1,h2⟩:=Reps.get (i:=i) (d:=d) t (by simpa using e)
  exact⟨v,by simpa using h1,h2⟩
theorem Reps.take{F:Hp}:∀{ds:List D} {vs:List V} (n:Nat),Reps K F ds vs→Reps K F (ds.take n) (vs.take n)
 |_,_,0,_=>.nil
 |_,_,_+1,.nil=>.nil
 |_,_,n+1,.cons h t=>.cons h (t.take n)
theorem Reps.drop{F:Hp}:∀{ds:List D} {vs:List V} (n:Nat),Reps K F ds vs→Reps K F (ds.drop n) (vs.drop n)
 |_,_,0,r=>r
 |_,_,_+1,.nil=>.nil
 |_,_,n+1,.cons h t=>t.drop n
inductive SV where
 |fz (d:D)|ol (xs:List D)|oK (ks:List Key) (vs:List D)|oT (ks:List (List Key)) (vs:List D)|oN (ks:List Key) (xss:List (List D))|oL (pin:Option Addr) (xss:List (List D))
@[simp] noncomputable def SV.toD:SV→D
 | .fz d=>d
 | .ol xs=>.lst xs
 | .oK ks vs=>.dK ks vs
 | .oT ks vs=>.dT ks vs
 | .oN ks xss=>.dK ks (xss.map D.lst)
 | .oL _ xss=>.lst (xss.map D.lst)
noncomputable abbrev Zp:=List (Addr×HO)
inductive Kids(K:PySem.W.Frag)(F:Hp):List (List D)→List V→Zp→Prop where
 |nil:Kids K F [] [] []
 |cons {xs:List D} {xss:List (List D)} {b:Addr} {vs:List V} {ws:List V} {ns:Zp} (r:Reps K F xs vs) (t:Kids K F xss ws ns):Kids K F (xs::xss) (.ref b::ws) ((b,.lst vs)::ns)
inductive Shape(K:PySem.W.Frag)(F:Hp):SV→V→Zp→Prop where
 |fz {d:D} {v:V} (h:Rep K F d v):Shape K F (.fz d) v []
 |ol {a:Addr} {xs:List D} {vs:List V} (r:Reps K F xs vs):Shape K F (.ol xs) (.ref a) [(a,.lst vs)]
 |oK {a:Addr} {ks:List Key} {ds:List D} {kvs:List (Key×V)} {ep:Nat} (e:kvs.map (·.1)=ks) (r:Reps K F ds (kvs.map (·.2))):Shape K F (.oK ks ds) (.ref a) [(a,.dK kvs ep)]
 |oT {a:Addr} {ks:List (List Key)} {ds:List D} {kvs:List (List Key×V)} {ep:Nat} {bs:List Addr} (kb:KB F kvs bs) (e:kvs.map (·.1)=ks) (r:Reps K F ds (kvs.map (·.2))):Shape K F (.oT ks ds) (.ref a) [(a,.dT kvs ep bs)]
 |oN {a:Addr} {ks:List Key} {xss:List (List D)} {kvs:List (Key×V)} {ns:Zp} {ep:Nat} (e:kvs.map (·.1)=ks) (r:Kids K F xss (kvs.map (·.2)) ns):Shape K F (.oN ks xss) (.ref a) ((a,.dK kvs ep)::ns)
 |oL {pin:Option Addr} {a:Addr} {xss:List (List D)} {ws:List V} {ns:Zp} (hp:∀b,pin=some b→b=a) (r:Kids K F xss ws ns):Shape K F (.oL pin xss) (.ref a) ((a,.lst ws)::ns)
theorem Kids.mono{F F':Hp}(s:Same F F'){xss:List (List D)}{ws:List V}{ns:Zp}(h:Kids K F xss ws ns):Kids K F' xss ws ns:=by
 induction h with
 |nil=>exact .nil
 |cons r _ ih=>exact .cons (r.mono s) ih
theorem Shape.mono{F F':Hp}(s:Same F F'){sv:SV}{v:V}{ns:Zp}(h:Shape K F sv v ns):Shape K F' sv v ns:=by
 cases h with
 |fz h=>exact .fz (h.mono s)
 |ol r=>exact .ol (r.mono s)
 |oK e r=>exact .oK e (r.mono s)
 |oT kb e r=>exact .oT (kb.mono s) e (r.mono s)
 |oN e r=>exact .oN e (r.mono s)
 |oL hp r=>exact .oL hp (r.mono s)
noncomputable def addL(F:Hp):Zp→Hp
 | []=>F
 |p::r=>upd (addL F r) p.1 p.2
noncomputable abbrev adr(ns:Zp):List Addr:=ns.map (·.1)
theorem Zdl{F:Hp}{b:Addr}:∀{ns:Zp},b∉adr ns→addL F ns b=F b
 | [],_=>rfl
 |p::r,h=>by
  have h1:b≠p.1:=fun e=>h (by rw[e];exact List.mem_cons_self)
  have h2:b∉adr r:=fun e=>h (List.mem_cons_of_mem _ e)
  show upd (addL F r) p.1 p.2 b=F b
  rw[Zy h1,Zdl h2]
theorem Zgj{F:Hp}{p:Addr×HO}:∀{ns:Zp},(adr ns).Nodup→p∈ns→addL F ns p.1=some p.2
 | [],_,h=>nomatch h
 |q::r,nd,h=>by
  obtain⟨n1,n2⟩:=List.nodup_cons.mp nd
  show upd (addL F r) q.1 q.2 p.1=some p.2
  rcases List.mem_cons.mp h with e|e
  ·subst e;exact Zab
  ·rw[Zy fun z=>n1 (List.mem_map.mpr ⟨p,e,z⟩)]
   exact Zgj n2 e
theorem Zbu{F:Hp}{ns:Zp}(h:∀p∈ns,F p.1=none):Same F (addL F ns):=fun b o e=>by
 by_cases hb:b∈adr ns
 ·obtain⟨p,hp,ep⟩:=List.mem_map.mp hb
  subst ep
  rw[h p hp]at e;cases e
 ·rw[Zdl hb];exact e
theorem Zmk{F H:Hp}{ns:Zp}(nd:(adr ns).Nodup)(le:Same F H)(h:∀p∈ns,H p.1=some p.2):Same (addL F ns) H:=fun b o e=>by
 by_cases hb:b∈adr ns
 ·obtain⟨p,hp,ep⟩:=List.mem_map.mp hb
  subst ep
  rw[Zgj nd hp]at e
  cases e
  exact h p hp
 ·rw[Zdl hb]at e;exact le b o e
theorem Zjs{Z:Hp×Hp}{F:Hp}{ns:Zp}(nd:(adr ns).Nodup)(fro:∀(b:Addr) (o:HO),F b=some o→Z.2 b=some o∨Z.1 b=none)(hz:∀p∈ns,Z.1 p.1=none):∀(b:Addr) (o:HO),addL F ns b=some o→Z.2 b=some o∨Z.1 b=none:=fun b o e=>by
 by_cases hb:b∈adr ns
 ·obtain⟨p,hp,ep⟩:=List.mem_map.mp hb
  subst ep
  exact .inr (hz p hp)
 ·rw[Zdl hb]at e;exact fro b o e
theorem Kids.rep{F F':Hp}(s:Same F F'):∀{xss:List (List D)} {ws:List V} {ns:Zp},Kids K F xss ws ns→(∀p∈ns,F' p.1=some p.2)→Reps K F' (xss.map D.lst) ws
 |_,_,_,.nil,_=>.nil
 |_,_,_,.cons r t,h=>.cons (.lst (.inl (.inl (h _ List.mem_cons_self))) (r.mono s)) (t.rep s fun p hp=>h p (List.mem_cons_of_mem _ hp))
theorem Shape.rep{F:Hp}{sv:SV}{v:V}{ns:Zp}(h:Shape K F sv v ns)(nd:(adr ns).Nodup)(hn:∀p∈ns,F p.1=none):Rep K (addL F ns) sv.toD v:=by
 have s:=Zbu hn
 have a:∀p∈ns,addL F ns p.1=some p.2:=fun p hp=>Zgj nd hp
 cases h with
 |fz h=>exact h
 |ol r=>exact .lst (.inl (.inl (a (_,_) List.mem_cons_self))) (r.mono s)
 |oK e r=>exact .dK (a (_,_) List.mem_cons_self) e (r.mono s)
 |oT kb e r=>exact .dT (a (_,_) List.mem_cons_self) (kb.mono s) e (r.mono s)
 |oN e r=>exact .dK (a (_,_) List.mem_cons_self) e (r.rep s fun p hp=>a p (List.mem_cons_of_mem _ hp))
 |oL _ r=>exact .lst (.inl (.inl (a (_,_) List.mem_cons_self))) (r.rep s fun p hp=>a p (List.mem_cons_of_mem _ hp))
noncomputable abbrev DSt:=List (Option SV)
set_option genInjectivity false in
structure Ent(K:PySem.W.Frag)where
 h:Hp
 f:Hp
 x:EXT
noncomputable abbrev ent(H F:Hp):Ent K:=⟨H,F,fun _ _ _ _=>False⟩
set_option genInjectivity false in
structure Exn where
 c:Str
 ks:List Str:=[]
 vs:List D:=[]
noncomputable def Zjt(K:PySem.W.Frag)(F:Hp)(e:Exn)(cls:Value)(od:Option Addr):Prop:=∃C,Zci K e.c C∧cls= .ref C∧match od with
 |none=>e.ks=[]∧e.vs=[]
 |some dx=>∃fs:List (Str×V),F dx=some (.xd fs)∧fs.map (·.1)=e.ks∧Reps K F e.vs (fs.map (·.2))
structure SR(Z:Ent K)(F H:Hp)(σ:St)(δ:DSt)(own:Nat→Zp):Prop where
 le:Same F H
 fro:∀(b:Addr) (o:HO),F b=some o→Z.f b=some o∨Z.h b=none
 old:Same Z.h H
 len:σ.length=δ.length
 at':∀(i:Nat) (sv:SV),δ[i]? =some (some sv)→∃v,σ[i]? =some (some v)∧Shape K F sv v (own i)
 nod:∀i:Nat,(adr (own i)).Nodup
 ok:∀(i:Nat) (p:Addr×HO),p∈own i→F p.1=none∧Z.h p.1=none∧H p.1=some p.2
 sep:∀(i j:Nat) (p q:Addr×HO),i≠j→p∈own i→q∈own j→p.1≠q.1
inductive RV where
 |tmp (sv:SV)|bw (i:Nat)
structure TmpOk(Z:Ent K)(F H:Hp)(own:Nat→Zp)(sv:SV)(v:V)(ns:Zp):Prop where
 sh:Shape K F sv v ns
 nd:(adr ns).Nodup
 ok:∀p∈ns,F p.1=none∧Z.h p.1=none∧H p.1=some p.2
 sep:∀(i:Nat) (p q:Addr×HO),p∈ns→q∈own i→p.1≠q.1
noncomputable def Zml(Z:Ent K)(F H:Hp)(σ:St)(own:Nat→Zp):RV→V→Prop
 | .tmp sv,v=>∃ns,TmpOk Z F H own sv v ns
 | .bw i,v=>σ[i]? =some (some v)
theorem TmpOk.fz{Z:Ent K}{F H:Hp}{own:Nat→Zp}{d:D}{v:V}(h:Rep K F d v):TmpOk Z F H own (.fz d) v []:=
 ⟨.fz h,List.nodup_nil,fun _ h=>(nomatch h),fun _ _ _ h=>(nomatch h)⟩
theorem Zbo{H:Hp}{p:Addr}{o:HO}(h:H p=none):Same H (upd H p o):=fun b u e=>by
 rw[Zy fun z=>by rw[z,h]at e;cases e];exact e
theorem SR.grow{Z:Ent K}{F H H':Hp}{σ:St}{δ:DSt}{own:Nat→Zp}(s:SR Z F H σ δ own)(h:Same H H'):SR Z F H' σ δ own:=
 ⟨s.le.trans h,s.fro,s.old.trans h,s.len,s.at',s.nod,fun i p hp=>let⟨a,b,c⟩:=s.ok i p hp;⟨a,b,h _ _ c⟩,s.sep⟩
theorem SR.addF{Z:Ent K}{F H:Hp}{σ:St}{δ:DSt}{own:Nat→Zp}{ns:Zp}(s:SR Z F H σ δ own)(nd:(adr ns).Nodup)(hn:∀p∈ns,F p.1=none)(hH:∀p∈ns,H p.1=some p.2)(hz:∀p∈ns,Z.h p.1=none)
  (hs:∀(i:Nat) (p q:Addr×HO),p∈ns→q∈own i→p.1≠q.1):SR Z (addL F ns) H σ δ own:=by
 have sm:=Zbu hn
 refine⟨Zmk nd s.le hH,Zjs (Z:=(Z.h,Z.f)) nd s.fro hz,s.old,s.len,fun i sv e=>?_,s.nod,fun i p hp=>?_,s.sep⟩
 ·obtain⟨v,h1,h2⟩:=s.at' i sv e
  exact⟨v,h1,h2.mono sm⟩
 ·obtain⟨a,b,c⟩:=s.ok i p hp
  refine⟨?_,b,c⟩
  rw[Zdl fun hb=>?_]
  ·exact a
  ·obtain⟨q,hq,e⟩:=List.mem_map.mp hb
   exact hs i q p hq hp e
theorem SR.settle{Z:Ent K}{F H:Hp}{σ:St}{δ:DSt}{own:Nat→Zp}{sv:SV}{v:V}{ns:Zp}(s:SR Z F H σ δ own)(t:TmpOk Z F H own sv v ns):
  ∃F1,Same F F1∧SR Z F1 H σ δ own∧Rep K F1 sv.toD v:=
 ⟨addL F ns,Zbu fun p hp=>(t.ok p hp).1,s.addF t.nd (fun p hp=>(t.ok p hp).1) (fun p hp=>(t.ok p hp).2.2) (fun p hp=>(t.ok p hp).2.1) t.sep,t.sh.rep t.nd fun p hp=>(t.ok p hp).1⟩
noncomputable def put(own:Nat→Zp)(i:Nat)(ns:Zp):Nat→Zp:=fun j=>if j=i then ns else own j
theorem Zo{own:Nat→Zp}{i:Nat}{ns:Zp}:put own i ns i=ns:=if_pos rfl
theorem Zu{own:Nat→Zp}{i j:Nat}{ns:Zp}(h:j≠i):put own i ns j=own j:=if_neg h
theorem SR.freeze{Z:Ent K}{F H:Hp}{σ:St}{δ:DSt}{own:Nat→Zp}{i:Nat}{sv:SV}(s:SR Z F H σ δ own)(e:δ[i]? =some (some sv)):
  ∃F1 v,Same F F1∧σ[i]? =some (some v)∧Rep K F1 sv.toD v∧SR Z F1 H σ (δ.set i (some (.fz sv.toD))) (put own i []):=by
 obtain⟨v,h1,h2⟩:=s.at' i sv e
 have hn:∀p∈own i,F p.1=none:=fun p hp=>(s.ok i p hp).1
 have sm:=Zbu hn
 have hi:i<δ.length:=(List.getElem?_eq_some_iff.mp e).1
 refine⟨addL F (own i),v,sm,h1,h2.rep (s.nod i) hn,⟨Zmk (s.nod i) s.le fun p hp=>(s.ok i p hp).2.2,Zjs (Z:=(Z.h,Z.f)) (s.nod i) s.fro fun p hp=>(s.ok i p hp).2.1,s.old,by rw[List.length_set];exact s.len,fun j sw ej=>?_,fun j=>?_,fun j p hp=>?_,fun j k p q hjk hp hq=>?_⟩⟩
 ·by_cases hj:j=i
  ·subst hj
   rw[List.getElem?_set_self hi]at ej
   cases ej
   rw[Zo]
   exact⟨v,h1,.fz (h2.rep (s.nod j) hn)⟩
  ·rw[List.getElem?_set_ne (Ne.symm hj)]at ej
   obtain⟨w,g1,g2⟩:=s.at' j sw ej
   rw[Zu hj]
   exact⟨w,g1,g2.mono sm⟩
 ·by_cases hj:j=i
  ·subst hj;rw[Zo];exact List.nodup_nil
  ·rw[Zu hj];exact s.nod j
 ·by_cases hj:j=i
  ·subst hj;rw[Zo]at hp;exact nomatch hp
  ·rw[Zu hj]at hp
   obtain⟨a,b,c⟩:=s.ok j p hp
   refine⟨?_,b,c⟩
   rw[Zdl fun hb=>?_]
   ·exact a
   ·obtain⟨q,hq,z⟩:=List.mem_map.mp hb
    exact s.sep i j q p (Ne.symm hj) hq hp z
 ·by_cases hj:j=i
  ·subst hj;rw[Zo]at hp;exact nomatch hp
  ·by_cases hk:k=i
   ·subst hk;rw[Zo]at hq;exact nomatch hq
   ·rw[Zu hj]at hp
    rw[Zu hk]at hq
    exact s.sep j k p q hjk hp hq
theorem SR.store{Z:Ent K}{F H:Hp}{σ:St}{δ:DSt}{own:Nat→Zp}{i:Nat}{sv:SV}{v:V}{ns:Zp}(s:SR Z F H σ δ own)(t:TmpOk Z F H own sv v ns)(hi:i<σ.length):
  SR Z F H (σ.set i (some v)) (δ.set i (some sv)) (put own i ns):=by
 refine⟨s.le,s.fro,s.old,by rw[List.length_set,List.length_set];exact s.len,fun j sw ej=>?_,fun j=>?_,fun j p hp=>?_,fun j k p q hjk hp hq=>?_⟩
 ·by_cases hj:j=i
  ·subst hj
   have hd:j<δ.length:=by
    have:=(List.getElem?_eq_some_iff.mp ej).1
    simpa using this
   rw[List.getElem?_set_self hd]at ej
   cases ej
   rw[Zo,List.getElem?_set_self hi]
   exact⟨v,rfl,t.sh⟩
  ·rw[List.getElem?_set_ne (Ne.symm hj)]at ej
   rw[Zu hj,List.getElem?_set_ne (Ne.symm hj)]
   exact s.at' j sw ej
 ·by_cases hj:j=i
  ·subst hj;rw[Zo];exact t.nd
  ·rw[Zu hj];exact s.nod j
 ·by_cases hj:j=i
  ·subst hj;rw[Zo]at hp;exact t.ok p hp
  ·rw[Zu hj]at hp;exact s.ok j p hp
 ·by_cases hj:j=i
  ·subst hj
   rw[Zo]at hp
   rw[Zu (Ne.symm hjk)]at hq
   exact t.sep k p q hp hq
  ·by_cases hk:k=i
   ·subst hk
    rw[Zo]at hq
    rw[Zu hj]at hp
    exact Ne.symm (t.sep j q p hq hp)
   ·rw[Zu hj]at hp
    rw[Zu hk]at hq
    exact s.sep j k p q hjk hp hq
theorem SR.change{Z:Ent K}{F H:Hp}{σ:St}{δ:DSt}{own:Nat→Zp}{i:Nat}{sv sv':SV}{a:Addr}{o o':HO}{v:V}{ns':Zp}(s:SR Z F H σ δ own)(e:δ[i]? =some (some sv))(hv:σ[i]? =some (some v))
  (ha:(a,o)∈own i) (hs:Shape K F sv' v ns') (hns:∀p∈ns',p=(a,o')∨(p∈own i∧p.1≠a)) (nd:(adr ns').Nodup):SR Z F (upd H a o') σ (δ.set i (some sv')) (put own i ns'):=by
 obtain⟨fa,ha0,hHa⟩:=s.ok i (a,o) ha
 have hi:i<δ.length:=(List.getElem?_eq_some_iff.mp e).1
 refine⟨fun b u eb=>?_,s.fro,fun b u eb=>?_,by rw[List.length_set];exact s.len,fun j sw ej=>?_,fun j=>?_,fun j p hp=>?_,fun j k p q hjk hp hq=>?_⟩
 ·rw[Zy fun z=>by rw[z]at eb;rw[fa]at eb;cases eb];exact s.le b u eb
 ·rw[Zy fun z=>by rw[z]at eb;rw[ha0]at eb;cases eb];exact s.old b u eb
 ·by_cases hj:j=i
  ·subst hj
   rw[List.getElem?_set_self hi]at ej
   cases ej
   rw[Zo]
   exact⟨v,hv,hs⟩
  ·rw[List.getElem?_set_ne (Ne.symm hj)]at ej
   rw[Zu hj]
   exact s.at' j sw ej
 ·by_cases hj:j=i
  ·subst hj;rw[Zo];exact nd
  ·rw[Zu hj];exact s.nod j
 ·by_cases hj:j=i
  ·subst hj
   rw[Zo]at hp
   rcases hns p hp with z|⟨z,ne⟩
   ·subst z;exact⟨fa,ha0,Zab⟩
   ·obtain⟨x,y,w⟩:=s.ok j p z
    exact⟨x,y,by rw[Zy ne];exact w⟩
  ·rw[Zu hj]at hp
   obtain⟨x,y,w⟩:=s.ok j p hp
   exact⟨x,y,by rw[Zy (s.sep j i p (a,o) hj hp ha)];exact w⟩
 ·have own':∀r∈ns',∃r'∈own i,r.1=r'.1:=fun r hr=>by
   rcases hns r hr with z|⟨z,_⟩
   ·subst z;exact⟨(a,o),ha,rfl⟩
   ·exact⟨r,z,rfl⟩
  by_cases hj:j=i
  ·subst hj
   rw[Zo]at hp
   rw[Zu (Ne.symm hjk)]at hq
   obtain⟨r',hr',er⟩:=own' p hp
   rw[er]
   exact s.sep j k r' q hjk hr' hq
  ·by_cases hk:k=i
   ·subst hk
    rw[Zo]at hq
    rw[Zu hj]at hp
    obtain⟨r',hr',er⟩:=own' q hq
    rw[er]
    exact s.sep j k p r' hjk hp hr'
   ·rw[Zu hj]at hp
    rw[Zu hk]at hq
    exact s.sep j k p q hjk hp hq
end DL
namespace DL
open PySem L2
variable{K:PySem.W.Frag}
noncomputable abbrev FE:=DSt→Option (RV×DSt)
noncomputable abbrev FT:=DSt→Option (Bool×DSt)
noncomputable abbrev FA:=DSt→Option (List RV×DSt)
noncomputable abbrev FD:=DSt→Option (List D×DSt)
@[simp] noncomputable def SV.nested:SV→Bool
 | .oN _ _=>true
 | .oL _ _=>true
 |_=>false
@[simp] noncomputable def rdv:RV→DSt→Option D
 | .tmp sv,_=>some sv.toD
 | .bw i,δ=>(δ[i]?.join).bind fun sv=>if sv.nested then none else some sv.toD
@[simp] noncomputable def frz:RV→DSt→Option (D×DSt)
 | .tmp sv,δ=>some (sv.toD,δ)
 | .bw i,δ=>(δ[i]?.join).bind fun sv=>some (sv.toD,δ.set i (some (.fz sv.toD)))
theorem Zc2{δ:DSt}{i:Nat}{sv:SV}(h:δ[i]?.join=some sv):δ[i]? =some (some sv):=by
 cases e:δ[i]? with
 |none=>rw[e]at h;cases h
 |some o=>rw[e]at h;cases o with
  |none=>cases h
  |some s=>cases h;rfl
noncomputable def Zc(Z:Ent K)(f:FE):TE:=fun σ H Q=>∃F δ own rv δ',SR Z F H σ δ own∧f δ=some (rv,δ')∧
 ∀v H' F' own',Same H H'→Same F F'→SR Z F' H' σ δ' own'→Zml Z F' H' σ own' rv v→Q v H'
noncomputable def Zar(Z:Ent K)(f:FT):TT:=fun σ H Q=>∃F δ own b δ',SR Z F H σ δ own∧f δ=some (b,δ')∧
 ∀H' F' own',Same H H'→Same F F'→SR Z F' H' σ δ' own'→Q b H'
noncomputable def RVS(K:PySem.W.Frag)(F:Hp)(σ:St):RV→V→Prop
 | .tmp sv,v=>Rep K F sv.toD v
 | .bw i,v=>σ[i]? =some (some v)
inductive RVSs(K:PySem.W.Frag)(F:Hp)(σ:St):List RV→List V→Prop where
 |nil:RVSs K F σ [] []
 |cons {rv:RV} {v:V} {rvs:List RV} {vs:List V} (h:RVS K F σ rv v) (t:RVSs K F σ rvs vs):RVSs K F σ (rv::rvs) (v::vs)
noncomputable def Zd5(Z:Ent K)(f:FA):TA:=fun σ H Q=>∃F δ own rvs δ',SR Z F H σ δ own∧f δ=some (rvs,δ')∧
 ∀vs H' F' own',Same H H'→Same F F'→SR Z F' H' σ δ' own'→RVSs K F' σ rvs vs→Q vs H'
noncomputable def Zd6(Z:Ent K)(f:FD):TA:=fun σ H Q=>∃F δ own ds δ',SR Z F H σ δ own∧f δ=some (ds,δ')∧
 ∀vs H' F' own',Same H H'→Same F F'→SR Z F' H' σ δ' own'→Reps K F' ds vs→Q vs H'
section
variable{Z:Ent K}{F H F' H':Hp}{σ:St}{δ δ':DSt}{own:Nat→Zp}{rv:RV}{v:V}{d:D}{Q:VK}
theorem RVS.mono(s:Same F F')(h:RVS K F σ rv v):RVS K F' σ rv v:=by
 cases rv with
 |tmp sv=>exact Rep.mono s h
 |bw i=>exact h
theorem SR.settleR(s:SR Z F H σ δ own)(h:Zml Z F H σ own rv v):∃F1,Same F F1∧SR Z F1 H σ δ own∧RVS K F1 σ rv v:=by
 cases rv with
 |tmp sv=>obtain⟨ns,t⟩:=h;exact s.settle t
 |bw i=>exact⟨F,Same.refl F,s,h⟩
theorem SR.frzR(s:SR Z F H σ δ own)(h:RVS K F σ rv v)(e:frz rv δ=some (d,δ')):∃F1 own1,Same F F1∧SR Z F1 H σ δ' own1∧Rep K F1 d v:=by
 cases rv with
 |tmp sv=>cases e;exact⟨F,own,Same.refl F,s,h⟩
 |bw i=>
  obtain⟨sv,e1,e2⟩:=Option.bind_eq_some_iff.mp e
  cases e2
  obtain⟨F1,w,h1,h2,h3,h4⟩:=s.freeze (Zc2 e1)
  have h':σ[i]? =some (some v):=h
  rw[h']at h2;cases h2
  exact⟨F1,_,h1,h4,h3⟩
noncomputable def RepN(K:PySem.W.Frag)(F H:Hp)(d:D)(v:V):Prop:=∃sv ns,sv.toD=d∧sv.nested=false∧Shape K F sv v ns∧∀p∈ns,H p.1=some p.2
theorem RepN.of(h:Rep K F d v):RepN K F H d v:=⟨.fz d,[],rfl,rfl,.fz h,fun _ h=>nomatch h⟩
theorem SR.rd(s:SR Z F H σ δ own)(h:RVS K F σ rv v)(e:rdv rv δ=some d):RepN K F H d v:=by
 cases rv with
 |tmp sv=>cases e;exact RepN.of h
 |bw i=>
  obtain⟨sv,e1,e2⟩:=Option.bind_eq_some_iff.mp e
  cases hn:sv.nested with
  |true=>rw[hn]at e2;cases e2
  |false=>
   rw[hn]at e2
   cases e2
   obtain⟨w,h1,h2⟩:=s.at' i sv (Zc2 e1)
   have h':σ[i]? =some (some v):=h
   rw[h']at h1;cases h1
   exact⟨sv,own i,rfl,hn,h2,fun p hp=>(s.ok i p hp).2.2⟩
inductive RepNs(K:PySem.W.Frag)(F H:Hp):List D→List V→Prop where
 |nil:RepNs K F H [] []
 |cons {d:D} {v:V} {ds:List D} {vs:List V} (h:RepN K F H d v) (t:RepNs K F H ds vs):RepNs K F H (d::ds) (v::vs)
theorem RepN.non(h:RepN K F H .non v):v= .non:=by
 obtain⟨sv,ns,e,n,sh,hp⟩:=h
 cases sh with
 |fz r=>cases e;cases r;rfl
 |ol r=>cases e
 |oK e' r=>cases e
 |oT kb e' r=>cases e
 |oN e' r=>cases n
 |oL _ r=>cases n
theorem RepN.bl{b:Bool}(h:RepN K F H (.bl b) v):v= .bl b:=by
 obtain⟨sv,ns,e,n,sh,hp⟩:=h
 cases sh with
 |fz r=>cases e;cases r;rfl
 |ol r=>cases e
 |oK e' r=>cases e
 |oT kb e' r=>cases e
 |oN e' r=>cases n
 |oL _ r=>cases n
theorem RepN.int{i:Int}(h:RepN K F H (.int i) v):v= .int i:=by
 obtain⟨sv,ns,e,n,sh,hp⟩:=h
 cases sh with
 |fz r=>cases e;cases r;rfl
 |ol r=>cases e
 |oK e' r=>cases e
 |oT kb e' r=>cases e
 |oN e' r=>cases n
 |oL _ r=>cases n
theorem RepN.str{x:Str}(h:RepN K F H (.str x) v):v= .str x:=by
 obtain⟨sv,ns,e,n,sh,hp⟩:=h
 cases sh with
 |fz r=>cases e;cases r;rfl
 |ol r=>cases e
 |oK e' r=>cases e
 |oT kb e' r=>cases e
 |oN e' r=>cases n
 |oL _ r=>cases n
theorem RepN.tup{xs:List D}(le:Same F H)(h:RepN K F H (.tup xs) v):∃a vs,v= .ref a∧SqT K H a vs∧Reps K F xs vs:=by
 obtain⟨sv,ns,e,n,sh,hp⟩:=h
 cases sh with
 |fz r=>cases e;cases r with|tup h r=>exact⟨_,_,rfl,Zcj le (Zix h),r⟩
 |ol r=>cases e
 |oK e' r=>cases e
 |oT kb e' r=>cases e
 |oN e' r=>cases n
 |oL _ r=>cases n
theorem RepN.lst{xs:List D}(le:Same F H)(h:RepN K F H (.lst xs) v):∃a vs,v= .ref a∧SqL K H a vs∧Reps K F xs vs:=by
 obtain⟨sv,ns,e,n,sh,hp⟩:=h
 cases sh with
 |fz r=>cases e;cases r with|lst h r=>exact⟨_,_,rfl,Zb0 le h,r⟩
 |ol r=>cases e;exact⟨_,_,rfl,.inl (.inl (hp _ List.mem_cons_self)),r⟩
 |oK e' r=>cases e
 |oT kb e' r=>cases e
 |oN e' r=>cases n
 |oL _ r=>cases n
theorem RepN.dK{ks:List Key}{ds:List D}(le:Same F H)(h:RepN K F H (.dK ks ds) v):∃a kvs,v= .ref a∧HK H a kvs∧kvs.map (·.1)=ks∧Reps K F ds (kvs.map (·.2)):=by
 obtain⟨sv,ns,e,n,sh,hp⟩:=h
 cases sh with
 |fz r=>cases e;cases r with|dK h e r=>exact⟨_,_,rfl,⟨_,le _ _ h⟩,e,r⟩
 |ol r=>cases e
 |oK e' r=>cases e;exact⟨_,_,rfl,⟨_,hp _ List.mem_cons_self⟩,e',r⟩
 |oT kb e' r=>cases e
 |oN e' r=>cases n
 |oL _ r=>cases n
theorem RepN.dT{ks:List (List Key)}{ds:List D}(le:Same F H)(h:RepN K F H (.dT ks ds) v):∃a kvs,v= .ref a∧HTt H a kvs∧kvs.map (·.1)=ks∧Reps K F ds (kvs.map (·.2)):=by
 obtain⟨sv,ns,e,n,sh,hp⟩:=h
 cases sh with
 |fz r=>cases e;cases r with|dT h kb e r=>exact⟨_,_,rfl,⟨_,_,le _ _ h⟩,e,r⟩
 |ol r=>cases e
 |oK e' r=>cases e
 |oT kb e' r=>cases e;exact⟨_,_,rfl,⟨_,_,hp _ List.mem_cons_self⟩,e',r⟩
 |oN e' r=>cases n
 |oL _ r=>cases n
end
theorem nd1{a:Addr}:([a]:List Addr).Nodup:=List.nodup_cons.mpr ⟨fun h=>(nomatch h),List.nodup_nil⟩
noncomputable def Fin(Z:Ent K)(F H:Hp)(σ:St)(δ:DSt)(own:Nat→Zp)(sv:SV)(Q:VK):Prop:=
 ∀v H' F' ns,Same H H'→Same F F'→SR Z F' H' σ δ own→TmpOk Z F' H' own sv v ns→Q v H'
section
variable{Z:Ent K}{F H:Hp}{σ:St}{δ:DSt}{own:Nat→Zp}{Q:VK}
theorem Fin.fz{d:D}{v:V}(f:Fin Z F H σ δ own (.fz d) Q)(s:SR Z F H σ δ own)(h:Rep K F d v):Q v H:=f v H F [] (Same.refl H) (Same.refl F) s (.fz h)
theorem Fin.one{sv:SV}{o:HO}{p:Addr}(f:Fin Z F H σ δ own sv Q)(s:SR Z F H σ δ own)(sh:Shape K F sv (.ref p) [(p,o)])(hp:H p=none):Q (.ref p) (upd H p o):=by
 have sm:=Zbo (o:=o) hp
 refine f (.ref p) (upd H p o) F [(p,o)] sm (Same.refl F) (s.grow sm) ⟨sh,nd1,fun q hq=>?_,fun i q r hq hr=>?_⟩
 ·obtain rfl:=List.mem_singleton.mp hq
  exact⟨s.le.free hp,s.old.free hp,Zab⟩
 ·obtain rfl:=List.mem_singleton.mp hq
  intro e
  have e':p=r.1:=e
  have z:=(s.ok i r hr).2.2
  rw[←e',hp]at z;cases z
theorem Fin.lst{xs:List D}{vs:List V}{p:Addr}(f:Fin Z F H σ δ own (.ol xs) Q)(s:SR Z F H σ δ own)(r:Reps K F xs vs)(hp:H p=none):Q (.ref p) (upd H p (.lst vs)):=f.one s (.ol r) hp
theorem Fin.tup{xs:List D}{vs:List V}{p:Addr}(f:Fin Z F H σ δ own (.fz (.tup xs)) Q)(s:SR Z F H σ δ own)(r:Reps K F xs vs)(hp:H p=none):Q (.ref p) (upd H p (.tup vs)):=by
 have sm:=Zbo (o:=.tup vs) hp
 have sF:Same F (addL F [(p,.tup vs)]):=Zbu fun q hq=>by obtain rfl:=List.mem_singleton.mp hq;exact s.le.free hp
 refine f (.ref p) (upd H p (.tup vs)) (addL F [(p,.tup vs)]) [] sm sF ?_ (.fz (.tup Zab (r.mono sF)))
 refine(s.grow sm).addF (nd1) (fun q hq=>?_) (fun q hq=>?_) (fun q hq=>?_) fun i q u hq hu=>?_
 ·obtain rfl:=List.mem_singleton.mp hq;exact s.le.free hp
 ·obtain rfl:=List.mem_singleton.mp hq;exact Zab
 ·obtain rfl:=List.mem_singleton.mp hq;exact s.old.free hp
 ·obtain rfl:=List.mem_singleton.mp hq
  intro e
  have e':p=u.1:=e
  have z:=(s.ok i u hu).2.2
  rw[←e',hp]at z;cases z
end
theorem Zb1{F:Hp}{d:D}{v:V}{ns:Zp}(h:Shape K F (.fz d) v ns):Rep K F d v:=by
 cases h with
 |fz r=>exact r
section
variable{Z:Ent K}{H:Hp}{σ:St}{Q:VK}
@[simp] noncomputable def Zd(i:Nat):FE:=fun δ=>match δ[i]? with
 |some (some (.fz d))=>some (.tmp (.fz d),δ)
 |some (some _)=>some (.bw i,δ)
 |_=>none
theorem Zzl{i:Nat}(h:Zc Z (Zd i) σ H Q):tVar i σ H Q:=by
 obtain⟨F,δ,own,rv,δ',s,e,k⟩:=h
 unfold Zd at e
 split at e
 ·rename_i d hd
  cases e
  obtain⟨v,h1,h2⟩:=s.at' i _ hd
  exact⟨v,h1,k v H F own (Same.refl H) (Same.refl F) s ⟨[],.fz (Zb1 h2)⟩⟩
 ·rename_i sv hsv hd
  cases e
  obtain⟨v,h1,h2⟩:=s.at' i _ hd
  exact⟨v,h1,k v H F own (Same.refl H) (Same.refl F) s h1⟩
 ·cases e
@[simp] noncomputable def Za(d:D):FE:=fun δ=>some (.tmp (.fz d),δ)
theorem Zei{d:D}{v:V}(hr:∀F,Rep K F d v)(h:Zc Z (Za d) σ H Q):tC v σ H Q:=by
 obtain⟨F,δ,own,rv,δ',s,e,k⟩:=h
 cases e
 exact k v H F own (Same.refl H) (Same.refl F) s ⟨[],.fz (hr F)⟩
@[simp] noncomputable def Zj:FA:=fun δ=>some ([],δ)
@[simp] noncomputable def Zb(fe:FE)(fa:FA):FA:=fun δ=>(fe δ).bind fun p=>(fa p.2).bind fun q=>some (p.1::q.1,q.2)
theorem Zo7{R:List V→Hp→Prop}(h:Zd5 Z Zj σ H R):tNil σ H R:=by
 obtain⟨F,δ,own,rvs,δ',s,e,k⟩:=h
 cases e
 exact k [] H F own (Same.refl H) (Same.refl F) s .nil
theorem Zmm{fe:FE}{fa:FA}{R:List V→Hp→Prop}(h:Zd5 Z (Zb fe fa) σ H R):Zee (Zc Z fe) (Zd5 Z fa) σ H R:=by
 obtain⟨F,δ,own,rvs,δ',s,e,k⟩:=h
 obtain⟨⟨rv,δ1⟩,e1,e2⟩:=Option.bind_eq_some_iff.mp e
 obtain⟨⟨rr,δ2⟩,e3,e4⟩:=Option.bind_eq_some_iff.mp e2
 cases e4
 refine⟨F,δ,own,rv,δ1,s,e1,fun v H1 F1 own1 sH sF s1 r1=>?_⟩
 obtain⟨F2,sF2,s2,r2⟩:=s1.settleR r1
 exact⟨F2,δ1,own1,rr,δ2,s2,e3,fun vs H3 F3 own3 sH3 sF3 s3 r3=>k _ H3 F3 own3 (sH.trans sH3) (sF.trans (sF2.trans sF3)) s3 (.cons (r2.mono sF3) r3)⟩
@[simp] noncomputable def Zdr:List RV→DSt→Option (List D)
 | [],_=>some []
 |rv::r,δ=>(rdv rv δ).bind fun d=>(Zdr r δ).bind fun ds=>some (d::ds)
theorem SR.rdAll{F:Hp}{δ:DSt}{own:Nat→Zp}(s:SR Z F H σ δ own):∀{rvs:List RV} {vs:List V} {ds:List D},RVSs K F σ rvs vs→Zdr rvs δ=some ds→RepNs K F H ds vs
 |_,_,_,.nil,e=>by cases e;exact .nil
 |_,_,_,.cons h t,e=>by
  obtain⟨d,e1,e2⟩:=Option.bind_eq_some_iff.mp e
  obtain⟨ds,e3,e4⟩:=Option.bind_eq_some_iff.mp e2
  cases e4
  exact .cons (s.rd h e1) (s.rdAll t e3)
@[simp] noncomputable def Zao(g:List D→Option SV)(fa:FA):FE:=fun δ=>(fa δ).bind fun p=>(Zdr p.1 p.2).bind fun ds=>(g ds).bind fun sv=>some (.tmp sv,p.2)
noncomputable def Zfe(Z:Ent K)(r:List V→Hp→VK→Prop)(g:List D→Option SV):Prop:=
 ∀(F H:Hp) (σ:St) (δ:DSt) (own:Nat→Zp) (vs:List V) (ds:List D) (sv:SV) (Q:VK),SR Z F H σ δ own→RepNs K F H ds vs→g ds=some sv→Fin Z F H σ δ own sv Q→r vs H Q
theorem Zmn{r:List V→Hp→VK→Prop}{g:List D→Option SV}{fa:FA}(hg:Zfe Z r g)(h:Zc Z (Zao g fa) σ H Q):tCB r (Zd5 Z fa) σ H Q:=by
 obtain⟨F,δ,own,rv,δ',s,e,k⟩:=h
 obtain⟨⟨rvs,δ1⟩,e1,e2⟩:=Option.bind_eq_some_iff.mp e
 obtain⟨ds,e3,e4⟩:=Option.bind_eq_some_iff.mp e2
 obtain⟨sv,e5,e6⟩:=Option.bind_eq_some_iff.mp e4
 cases e6
 refine⟨F,δ,own,rvs,δ1,s,e1,fun vs H1 F1 own1 sH sF s1 r1=>?_⟩
 exact hg F1 H1 σ δ1 own1 vs ds sv Q s1 (s1.rdAll r1 e3) e5 fun v H2 F2 ns sH2 sF2 s2 t=>k v H2 F2 own1 (sH.trans sH2) (sF.trans sF2) s2 ⟨ns,t⟩
@[simp] noncomputable def g2(g:D→D→Option SV):List D→Option SV
 | [x,y]=>g x y
 |_=>none
@[simp] noncomputable def binF(g:D→D→Option SV)(fa fb:FE):FE:=Zao (g2 g) (Zb fa (Zb fb Zj))
noncomputable def Zbg(Z:Ent K)(r:R2)(g:D→D→Option SV):Prop:=
 ∀(F H:Hp) (σ:St) (δ:DSt) (own:Nat→Zp) (x y:V) (d1 d2:D) (sv:SV) (Q:VK),SR Z F H σ δ own→RepN K F H d1 x→RepN K F H d2 y→g d1 d2=some sv→Fin Z F H σ δ own sv Q→r x y H Q
theorem Zo8{r:R2}{g:D→D→Option SV}{fa fb:FE}(hg:Zbg Z r g)(h:Zc Z (binF g fa fb) σ H Q):tOp r (Zc Z fa) (Zc Z fb) σ H Q:=by
 have hN:Zfe Z (fun vs H Q=>∃x y,vs=[x,y]∧r x y H Q) (g2 g):=by
  intro F H σ δ own vs ds sv Q s rs e f
  cases rs with
  |nil=>cases e
  |cons h1 t1=>
   cases t1 with
   |nil=>cases e
   |cons h2 t2=>
    cases t2 with
    |nil=>exact⟨_,_,rfl,hg F H σ δ own _ _ _ _ sv Q s h1 h2 e f⟩
    |cons h3 t3=>cases e
 obtain⟨F,δ,own,rv,δ',s,e,k⟩:=Zmn hN h
 obtain⟨⟨rv1,δ1⟩,e1,e2⟩:=Option.bind_eq_some_iff.mp e
 obtain⟨⟨rr,δ2⟩,e3,e4⟩:=Option.bind_eq_some_iff.mp e2
 cases e4
 obtain⟨⟨rv2,δ3⟩,e5,e6⟩:=Option.bind_eq_some_iff.mp e3
 obtain⟨⟨rr',δ4⟩,e7,e8⟩:=Option.bind_eq_some_iff.mp e6
 cases e8
 cases e7
 refine⟨F,δ,own,rv1,δ1,s,e1,fun v H1 F1 own1 sH sF s1 r1=>?_⟩
 obtain⟨F2,sF2,s2,r2⟩:=s1.settleR r1
 refine⟨F2,δ1,own1,rv2,δ3,s2,e5,fun u H3 F3 own3 sH3 sF3 s3 r3=>?_⟩
 obtain⟨F4,sF4,s4,r4⟩:=s3.settleR r3
 obtain⟨x,y,exy,q⟩:=k [v,u] H3 F4 own3 (sH.trans sH3) (sF.trans (sF2.trans (sF3.trans sF4))) s4 (.cons (r2.mono (sF3.trans sF4)) (.cons r4 .nil))
 injection exy with ex ey
 injection ey with ey _
 subst ex ey
 exact q
@[simp] noncomputable def unF(g:D→Option SV)(fa:FE):FE:=Zao (fun| [x]=>g x|_=>none) (Zb fa Zj)
noncomputable def Zo9(Z:Ent K)(r:V→Hp→VK→Prop)(g:D→Option SV):Prop:=
 ∀(F H:Hp) (σ:St) (δ:DSt) (own:Nat→Zp) (x:V) (d:D) (sv:SV) (Q:VK),SR Z F H σ δ own→RepN K F H d x→g d=some sv→Fin Z F H σ δ own sv Q→r x H Q
theorem l_un{r:V→Hp→VK→Prop}{g:D→Option SV}{fa:FE}(hg:Zo9 Z r g)(h:Zc Z (unF g fa) σ H Q):tUn r (Zc Z fa) σ H Q:=by
 obtain⟨F,δ,own,rv,δ',s,e,k⟩:=h
 obtain⟨⟨rvs,δ1⟩,e1,e2⟩:=Option.bind_eq_some_iff.mp e
 obtain⟨ds,e3,e4⟩:=Option.bind_eq_some_iff.mp e2
 obtain⟨sv,e5,e6⟩:=Option.bind_eq_some_iff.mp e4
 cases e6
 obtain⟨⟨rv1,δ2⟩,e7,e8⟩:=Option.bind_eq_some_iff.mp e1
 obtain⟨⟨rr',δ4⟩,e9,e10⟩:=Option.bind_eq_some_iff.mp e8
 cases e10
 cases e9
 obtain⟨d,e11,e12⟩:=Option.bind_eq_some_iff.mp e3
 cases e12
 refine⟨F,δ,own,rv1,δ2,s,e7,fun v H1 F1 own1 sH sF s1 r1=>?_⟩
 obtain⟨F2,sF2,s2,r2⟩:=s1.settleR r1
 exact hg F2 H1 σ δ2 own1 v d sv Q s2 (s2.rd r2 e11) e5 fun v H2 F2' ns sH2 sF2' s2 t=>k v H2 F2' own1 (sH.trans sH2) (sF.trans (sF2.trans sF2')) s2 ⟨ns,t⟩
@[simp] noncomputable def Z6:FD:=fun δ=>some ([],δ)
@[simp] noncomputable def Zt(fe:FE)(fd:FD):FD:=fun δ=>(fe δ).bind fun p=>(frz p.1 p.2).bind fun q=>(fd q.2).bind fun r=>some (q.1::r.1,r.2)
theorem Zmo{R:List V→Hp→Prop}(h:Zd6 Z Z6 σ H R):tNil σ H R:=by
 obtain⟨F,δ,own,rvs,δ',s,e,k⟩:=h
 cases e
 exact k [] H F own (Same.refl H) (Same.refl F) s .nil
theorem Zk3{fe:FE}{fd:FD}{R:List V→Hp→Prop}(h:Zd6 Z (Zt fe fd) σ H R):Zee (Zc Z fe) (Zd6 Z fd) σ H R:=by
 obtain⟨F,δ,own,rvs,δ',s,e,k⟩:=h
 obtain⟨⟨rv,δ1⟩,e1,e2⟩:=Option.bind_eq_some_iff.mp e
 obtain⟨⟨d,δ2⟩,e3,e4⟩:=Option.bind_eq_some_iff.mp e2
 obtain⟨⟨ds,δ3⟩,e5,e6⟩:=Option.bind_eq_some_iff.mp e4
 cases e6
 refine⟨F,δ,own,rv,δ1,s,e1,fun v H1 F1 own1 sH sF s1 r1=>?_⟩
 obtain⟨F2,sF2,s2,r2⟩:=s1.settleR r1
 obtain⟨F3,own3,sF3,s3,r3⟩:=s2.frzR r2 e3
 exact⟨F3,δ2,own3,ds,δ3,s3,e5,fun vs H4 F4 own4 sH4 sF4 s4 r4=>k _ H4 F4 own4 (sH.trans sH4) (sF.trans (sF2.trans (sF3.trans sF4))) s4 (.cons (r3.mono sF4) r4)⟩
@[simp] noncomputable def tupF(fd:FD):FE:=fun δ=>(fd δ).bind fun p=>if p.1.length≤PySem.sizeLine then some (.tmp (.fz (.tup p.1)),p.2)else none
@[simp] noncomputable def lstF(fd:FD):FE:=fun δ=>(fd δ).bind fun p=>if p.1.length≤PySem.sizeLine then some (.tmp (.ol p.1),p.2)else none
theorem Zzm{fd:FD}(h:Zc Z (tupF fd) σ H Q):tTup (Zd6 Z fd) σ H Q:=by
 obtain⟨F,δ,own,rv,δ',s,e,k⟩:=h
 obtain⟨⟨ds,δ1⟩,e1,e2⟩:=Option.bind_eq_some_iff.mp e
 by_cases hz:ds.length≤PySem.sizeLine
 ·rw[if_pos hz]at e2
  cases e2
  refine⟨F,δ,own,ds,δ1,s,e1,fun vs H1 F1 own1 sH sF s1 r1=>⟨by rw[←r1.length];exact hz,fun p hp=>?_⟩⟩
  exact Fin.tup (fun v H2 F2 ns a b c t=>k v H2 F2 own1 (sH.trans a) (sF.trans b) c ⟨ns,t⟩) s1 r1 hp
 ·rw[if_neg hz]at e2;cases e2
theorem Zzn{fd:FD}(h:Zc Z (lstF fd) σ H Q):tLst (Zd6 Z fd) σ H Q:=by
 obtain⟨F,δ,own,rv,δ',s,e,k⟩:=h
 obtain⟨⟨ds,δ1⟩,e1,e2⟩:=Option.bind_eq_some_iff.mp e
 by_cases hz:ds.length≤PySem.sizeLine
 ·rw[if_pos hz]at e2
  cases e2
  refine⟨F,δ,own,ds,δ1,s,e1,fun vs H1 F1 own1 sH sF s1 r1=>⟨by rw[←r1.length];exact hz,fun p hp=>?_⟩⟩
  exact Fin.lst (fun v H2 F2 ns a b c t=>k v H2 F2 own1 (sH.trans a) (sF.trans b) c ⟨ns,t⟩) s1 r1 hp
 ·rw[if_neg hz]at e2;cases e2
end
@[simp] noncomputable def SV.scal:SV→Bool
 | .fz .non=>true
 | .fz (.bl _)=>true
 | .fz (.int _)=>true
 | .fz (.str _)=>true
 |_=>false
noncomputable def spOf(K:PySem.W.Frag)(n:Nat)(g:List D→Option SV):Sp:=fun vs H Q _=>∃F ds sv,Same F H∧Reps K F ds vs∧ds.length=n∧g ds=some sv∧
 ∀v H' F' ns,Same H H'→Same F F'→Same F' H'→(∀(b:Addr) (o:HO),F' b=some o→F b=some o∨H b=none)→Shape K F' sv v ns→(adr ns).Nodup→(∀p∈ns,F' p.1=none∧H p.1=none∧H' p.1=some p.2)→Q v H'
@[simp] noncomputable def frzAll:List RV→DSt→Option (List D×DSt)
 | [],δ=>some ([],δ)
 |rv::r,δ=>(frz rv δ).bind fun p=>(frzAll r p.2).bind fun q=>some (p.1::q.1,q.2)
theorem RVSs.mono{F F':Hp}{σ:St}(s:Same F F'){rvs:List RV}{vs:List V}(h:RVSs K F σ rvs vs):RVSs K F' σ rvs vs:=by
 induction h with
 |nil=>exact .nil
 |cons h _ ih=>exact .cons (h.mono s) ih
section
variable{Z:Ent K}{H:Hp}{σ:St}{Q:VK}
theorem SR.frzAll{F:Hp}{δ:DSt}{own:Nat→Zp}:∀{rvs:List RV} {vs:List V} {ds:List D} {δ':DSt} {F:Hp} {δ:DSt} {own:Nat→Zp},SR Z F H σ δ own→RVSs K F σ rvs vs→DL.frzAll rvs δ=some (ds,δ')→
  ∃F1 own1,Same F F1∧SR Z F1 H σ δ' own1∧Reps K F1 ds vs
 |_,_,_,_,F,_,own,s,.nil,e=>by cases e;exact⟨F,own,Same.refl F,s,.nil⟩
 |_,_,_,_,F,_,own,s,.cons h t,e=>by
  obtain⟨⟨d,δ1⟩,e1,e2⟩:=Option.bind_eq_some_iff.mp e
  obtain⟨⟨ds,δ2⟩,e3,e4⟩:=Option.bind_eq_some_iff.mp e2
  cases e4
  obtain⟨F1,own1,sF1,s1,r1⟩:=s.frzR h e1
  obtain⟨F2,own2,sF2,s2,r2⟩:=SR.frzAll (own:=own) (F:=F) (δ:=δ1) s1 (t.mono sF1) e3
  exact⟨F2,own2,sF1.trans sF2,s2,.cons (r1.mono sF2) r2⟩
@[simp] noncomputable def Zck(n:Nat)(g:List D→Option SV)(fa:FA):FE:=fun δ=>(fa δ).bind fun p=>(DL.frzAll p.1 p.2).bind fun q=>if q.1.length=n then(g q.1).bind fun sv=>some (.tmp sv,if sv.scal then p.2 else q.2)else none
theorem Zju{F F':Hp}{sv:SV}{v:V}{ns:Zp}(h:sv.scal=true)(sh:Shape K F sv v ns):ns=[]∧Shape K F' sv v []:=by
 cases sh with
 |fz r=>
  refine⟨rfl,.fz ?_⟩
  cases r with
  |non=>exact .non
  |bl b=>exact .bl b
  |int i=>exact .int i
  |str x=>exact .str x
  |tup _ _=>cases h
  |lst _ _=>cases h
  |dK _ _ _=>cases h
  |dT _ _ _ _=>cases h
  |exc _ _=>cases h
  |exd _ _ _ _ _=>cases h
 |ol _=>cases h
 |oK _ _=>cases h
 |oT _ _ _=>cases h
 |oN _ _=>cases h
 |oL _ _=>cases h
theorem Zqp{n:Nat}{g:List D→Option SV}{fa:FA}{E:XK}(h:Zc Z (Zck n g fa) σ H Q):Zu7 (spOf K n g) [] E (Zd5 Z fa) σ H Q:=by
 obtain⟨F,δ,own,rv,δ',s,e,k⟩:=h
 obtain⟨⟨rvs,δ1⟩,e1,e2⟩:=Option.bind_eq_some_iff.mp e
 obtain⟨⟨ds,δ2⟩,e3,e4⟩:=Option.bind_eq_some_iff.mp e2
 by_cases hn:ds.length=n
 ·rw[if_pos hn]at e4
  obtain⟨sv,e5,e6⟩:=Option.bind_eq_some_iff.mp e4
  refine⟨F,δ,own,rvs,δ1,s,e1,fun vs H1 F1 own1 sH sF s1 r1=>?_⟩
  obtain⟨F2,own2,sF2,s2,r2⟩:=s1.frzAll (own:=own) (F:=F) (δ:=δ) r1 e3
  rw[List.append_nil]
  refine⟨F2,ds,sv,s2.le,r2,hn,e5,fun v H3 F3 ns sH3 sF3 le3 fro3 sh nd ok=>?_⟩
  by_cases hs:sv.scal=true
  ·rw[if_pos hs]at e6
   cases e6
   obtain⟨_,sh'⟩:=Zju (F':=F1) hs sh
   exact k v H3 F1 own1 (sH.trans sH3) sF (s1.grow sH3) ⟨[],sh',List.nodup_nil,fun _ h=>(nomatch h),fun _ _ _ h=>(nomatch h)⟩
  ·rw[if_neg hs]at e6
   cases e6
   have s3:SR Z F3 H3 σ δ2 own2:=by
    refine⟨le3,fun b o e=>?_,s2.old.trans sH3,s2.len,fun i sw ei=>?_,s2.nod,fun i p hp=>?_,s2.sep⟩
    ·rcases fro3 b o e with z|z
     ·exact s2.fro b o z
     ·exact .inr (s2.old.free z)
    ·obtain⟨w,h1,h2⟩:=s2.at' i sw ei
     exact⟨w,h1,h2.mono sF3⟩
    ·obtain⟨a,b,c⟩:=s2.ok i p hp
     refine⟨?_,b,sH3 _ _ c⟩
     cases z:F3 p.1 with
     |none=>rfl
     |some u=>
      rcases fro3 _ u z with y|y
      ·rw[a]at y;cases y
      ·rw[c]at y;cases y
   exact k v H3 F3 own2 (sH.trans sH3) (sF.trans (sF2.trans sF3)) s3 ⟨ns,sh,nd,fun p hp=>⟨(ok p hp).1,(s2.old).free (ok p hp).2.1,(ok p hp).2.2⟩,fun i p q hp hq e=>by
    have z:=(s2.ok i q hq).2.2
    rw[←e,(ok p hp).2.1]at z;cases z⟩
 ·rw[if_neg hn]at e4;cases e4
end
end DL
namespace DL
open PySem L2
variable{K:PySem.W.Frag}
section
variable{Z:Ent K}{H:Hp}{σ:St}{R:Bool→Hp→Prop}{Q:VK}
@[simp] noncomputable def Zz(fe:FE):FT:=fun δ=>(fe δ).bind fun p=>match p.1 with
 | .tmp (.fz (.bl b))=>some (b,p.2)
 |_=>none
theorem Zjv{fe:FE}(h:Zar Z (Zz fe) σ H R):Zu6 (Zc Z fe) σ H R:=by
 obtain⟨F,δ,own,b,δ',s,e,k⟩:=h
 obtain⟨⟨rv,δ1⟩,e1,e2⟩:=Option.bind_eq_some_iff.mp e
 refine⟨F,δ,own,rv,δ1,s,e1,fun v H1 F1 own1 sH sF s1 r1=>?_⟩
 dsimp only at e2
 split at e2
 ·cases e2
  obtain⟨ns,t⟩:=r1
  cases Zb1 t.sh
  exact⟨_,rfl,k H1 F1 own1 sH sF s1⟩
 ·cases e2
theorem Zsf{fe:FE}(h:Zar Z (Zz fe) σ H R):tB (Zc Z fe) σ H R:=Zjv h
@[simp] noncomputable def andF(f g:FT):FT:=fun δ=>(f δ).bind fun p=>if p.1=true then g p.2 else some (false,p.2)
@[simp] noncomputable def orF(f g:FT):FT:=fun δ=>(f δ).bind fun p=>if p.1=true then some (true,p.2)else g p.2
@[simp] noncomputable def notF(f:FT):FT:=fun δ=>(f δ).bind fun p=>some (!p.1,p.2)
theorem Zzo{f g:FT}(h:Zar Z (andF f g) σ H R):tAnd (Zar Z f) (Zar Z g) σ H R:=by
 obtain⟨F,δ,own,b,δ',s,e,k⟩:=h
 obtain⟨⟨c,δ1⟩,e1,e2⟩:=Option.bind_eq_some_iff.mp e
 refine⟨F,δ,own,c,δ1,s,e1,fun H1 F1 own1 sH sF s1=>?_⟩
 cases c with
 |true=>
  rw[if_pos rfl]at e2⊢
  exact⟨F1,δ1,own1,b,δ',s1,e2,fun H2 F2 own2 a c d=>k H2 F2 own2 (sH.trans a) (sF.trans c) d⟩
 |false=>
  rw[if_neg Bool.false_ne_true]at e2⊢
  cases e2
  exact k H1 F1 own1 sH sF s1
theorem l_or{f g:FT}(h:Zar Z (orF f g) σ H R):tOr (Zar Z f) (Zar Z g) σ H R:=by
 obtain⟨F,δ,own,b,δ',s,e,k⟩:=h
 obtain⟨⟨c,δ1⟩,e1,e2⟩:=Option.bind_eq_some_iff.mp e
 refine⟨F,δ,own,c,δ1,s,e1,fun H1 F1 own1 sH sF s1=>?_⟩
 cases c with
 |true=>
  rw[if_pos rfl]at e2⊢
  cases e2
  exact k H1 F1 own1 sH sF s1
 |false=>
  rw[if_neg Bool.false_ne_true]at e2⊢
  exact⟨F1,δ1,own1,b,δ',s1,e2,fun H2 F2 own2 a c d=>k H2 F2 own2 (sH.trans a) (sF.trans c) d⟩
theorem Zzp{f:FT}(h:Zar Z (notF f) σ H R):tNot (Zar Z f) σ H R:=by
 obtain⟨F,δ,own,b,δ',s,e,k⟩:=h
 obtain⟨⟨c,δ1⟩,e1,e2⟩:=Option.bind_eq_some_iff.mp e
 cases e2
 exact⟨F,δ,own,c,δ1,s,e1,k⟩
@[simp] noncomputable def andV(f g:FE):FE:=fun δ=>(Zz f δ).bind fun p=>if p.1=true then g p.2 else some (.tmp (.fz (.bl false)),p.2)
@[simp] noncomputable def orV(f g:FE):FE:=fun δ=>(Zz f δ).bind fun p=>if p.1=true then some (.tmp (.fz (.bl true)),p.2)else g p.2
@[simp] noncomputable def notV(f:FE):FE:=fun δ=>(Zz f δ).bind fun p=>some (.tmp (.fz (.bl (!p.1))),p.2)
theorem Zsg{F:Hp}{own:Nat→Zp}{b:Bool}:Zml Z F H σ own (.tmp (.fz (.bl b))) (.bl b):=⟨[],.fz (.bl b)⟩
theorem Zvj{f g:FE}(h:Zc Z (andV f g) σ H Q):Zuq (Zc Z f) (Zc Z g) σ H Q:=by
 obtain⟨F,δ,own,rv,δ',s,e,k⟩:=h
 obtain⟨⟨c,δ1⟩,e1,e2⟩:=Option.bind_eq_some_iff.mp e
 refine Zjv ⟨F,δ,own,c,δ1,s,e1,fun H1 F1 own1 sH sF s1=>?_⟩
 cases c with
 |true=>
  rw[if_pos rfl]at e2⊢
  exact⟨F1,δ1,own1,rv,δ',s1,e2,fun v H2 F2 own2 a c d=>k v H2 F2 own2 (sH.trans a) (sF.trans c) d⟩
 |false=>
  rw[if_neg Bool.false_ne_true]at e2⊢
  cases e2
  exact k _ H1 F1 own1 sH sF s1 Zsg
theorem Zvk{f:FE}(h:Zc Z (notV f) σ H Q):Zur (Zc Z f) σ H Q:=by
 obtain⟨F,δ,own,rv,δ',s,e,k⟩:=h
 obtain⟨⟨c,δ1⟩,e1,e2⟩:=Option.bind_eq_some_iff.mp e
 cases e2
 exact Zjv ⟨F,δ,own,c,δ1,s,e1,fun H1 F1 own1 sH sF s1=>k _ H1 F1 own1 sH sF s1 Zsg⟩
@[simp] noncomputable def ifF(t:FT)(f g:FE):FE:=fun δ=>(t δ).bind fun p=>if p.1=true then f p.2 else g p.2
@[simp] noncomputable def Zmp(g g':D→D→Option SV)(fa fb fc:FE):FE:=fun δ=>(fa δ).bind fun p=>(fb p.2).bind fun q=>(rdv p.1 q.2).bind fun x=>(rdv q.1 q.2).bind fun y=>(g x y).bind fun
 | .fz (.bl true)=>(fc q.2).bind fun r=>(rdv q.1 r.2).bind fun y'=>(rdv r.1 r.2).bind fun z=>(g' y' z).bind fun sv=>some (.tmp sv,r.2)
 | .fz (.bl false)=>some (.tmp (.fz (.bl false)),q.2)
 |_=>none
theorem Zsh{r r':R2}{g g':D→D→Option SV}{fa fb fc:FE}(hg:Zbg Z r g)(hg':Zbg Z r' g')(h:Zc Z (Zmp g g' fa fb fc) σ H Q):Zqh r r' (Zc Z fa) (Zc Z fb) (Zc Z fc) σ H Q:=by
 obtain⟨F,δ,own,rv,δ',s,e,k⟩:=h
 obtain⟨⟨rv1,δ1⟩,e1,e⟩:=Option.bind_eq_some_iff.mp e
 obtain⟨⟨rv2,δ2⟩,e2,e⟩:=Option.bind_eq_some_iff.mp e
 obtain⟨x,e3,e⟩:=Option.bind_eq_some_iff.mp e
 obtain⟨y,e4,e⟩:=Option.bind_eq_some_iff.mp e
 obtain⟨sv,e5,e⟩:=Option.bind_eq_some_iff.mp e
 refine⟨F,δ,own,rv1,δ1,s,e1,fun v H1 F1 own1 sH1 sF1 s1 r1=>?_⟩
 obtain⟨F1',sF1',s1',r1'⟩:=s1.settleR r1
 refine⟨F1',δ1,own1,rv2,δ2,s1',e2,fun u H2 F2 own2 sH2 sF2 s2 r2=>?_⟩
 obtain⟨F3,sF3,s3,r3⟩:=s2.settleR r2
 refine hg F3 H2 σ δ2 own2 v u x y sv _ s3 (s3.rd (r1'.mono (sF2.trans sF3)) e3) (s3.rd r3 e4) e5 fun z H4 F4 ns sH4 sF4 s4 t4=>?_
 dsimp only at e
 split at e
 ·cases Zb1 t4.sh
  refine⟨true,rfl,?_⟩
  rw[if_pos rfl]
  obtain⟨⟨rv5,δ5⟩,e6,e⟩:=Option.bind_eq_some_iff.mp e
  obtain⟨y',e7,e⟩:=Option.bind_eq_some_iff.mp e
  obtain⟨z',e8,e⟩:=Option.bind_eq_some_iff.mp e
  obtain⟨sv',e9,e⟩:=Option.bind_eq_some_iff.mp e
  cases e
  refine⟨F4,δ2,own2,rv5,δ5,s4,e6,fun w H5 F5 own5 sH5 sF5 s5 r5=>?_⟩
  obtain⟨F6,sF6,s6,r6⟩:=s5.settleR r5
  refine hg' F6 H5 σ δ5 own5 u w y' z' sv' _ s6 (s6.rd (r3.mono (sF4.trans (sF5.trans sF6))) e7) (s6.rd r6 e8) e9 fun q H7 F7 ns7 sH7 sF7 s7 t7=>?_
  exact k q H7 F7 own5 (sH1.trans (sH2.trans (sH4.trans (sH5.trans sH7)))) (sF1.trans (sF1'.trans (sF2.trans (sF3.trans (sF4.trans (sF5.trans (sF6.trans sF7))))))) s7 ⟨ns7,t7⟩
 ·cases Zb1 t4.sh
  cases e
  refine⟨false,rfl,?_⟩
  rw[if_neg Bool.false_ne_true]
  exact k _ H4 F4 own2 (sH1.trans (sH2.trans sH4)) (sF1.trans (sF1'.trans (sF2.trans (sF3.trans sF4)))) s4 Zsg
 ·cases e
end
inductive Fl where
 |nx (δ:DSt)|bk (δ:DSt)|ct (δ:DSt)|rt (sv:SV)|ex (e:Exn) (δ:DSt)
noncomputable abbrev FS:=DSt→Option Fl
noncomputable def Zff(Z:Ent K)(F:Hp)(D:Ends):Fl→Prop
 | .nx δ=>∀σ' H' F' own',Same F F'→SR Z F' H' σ' δ own'→D.nx σ' H'
 | .bk δ=>∀σ' H' F' own',Same F F'→SR Z F' H' σ' δ own'→D.bk σ' H'
 | .ct δ=>∀σ' H' F' own',Same F F'→SR Z F' H' σ' δ own'→D.ct σ' H'
 | .rt sv=>∀v H' F' ns,Same F F'→Same F' H'→(∀(b:Addr) (o:HO),F' b=some o→Z.f b=some o∨Z.h b=none)→Same Z.h H'→Shape K F' sv v ns→(adr ns).Nodup→
   (∀p∈ns,F' p.1=none∧Z.h p.1=none∧H' p.1=some p.2)→D.rt v H'
 | .ex x δ=>∀σ' H' F' own' cls od,Same F F'→SR Z F' H' σ' δ own'→Zjt K F' x cls od→Z.x cls od σ' H'
theorem Zff.mono{Z:Ent K}{F F':Hp}{D:Ends}(s:Same F F'):∀{fl:Fl},Zff Z F D fl→Zff Z F' D fl
 | .nx _,h=>fun σ' H' F2 own' a b=>h σ' H' F2 own' (s.trans a) b
 | .bk _,h=>fun σ' H' F2 own' a b=>h σ' H' F2 own' (s.trans a) b
 | .ct _,h=>fun σ' H' F2 own' a b=>h σ' H' F2 own' (s.trans a) b
 | .rt _,h=>fun v H' F2 ns a=>h v H' F2 ns (s.trans a)
 | .ex _ _,h=>fun σ' H' F2 own' cls od a=>h σ' H' F2 own' cls od (s.trans a)
noncomputable def Zv(Z:Ent K)(f:FS):TS:=fun D σ H=>∃F δ own fl,SR Z F H σ δ own∧f δ=some fl∧Zff Z F D fl
section
variable{Z:Ent K}{H:Hp}{σ:St}{E:Ends}
@[simp] noncomputable def Zba:FS:=fun δ=>some (.nx δ)
@[simp] noncomputable def Z2i:FS:=fun δ=>some (.bk δ)
@[simp] noncomputable def Z3r:FS:=fun δ=>some (.ct δ)
theorem Zvl(h:Zv Z Zba E σ H):Zuv E σ H:=by
 obtain⟨F,δ,own,fl,s,e,k⟩:=h
 cases e
 exact k σ H F own (Same.refl F) s
@[simp] noncomputable def seqF(f g:FS):FS:=fun δ=>(f δ).bind fun
 | .nx δ'=>g δ'
 |fl=>some fl
theorem Zzq{f g:FS}(h:Zv Z (seqF f g) E σ H):tSeq (Zv Z f) (Zv Z g) E σ H:=by
 obtain⟨F,δ,own,fl,s,e,k⟩:=h
 obtain⟨f1,e1,e2⟩:=Option.bind_eq_some_iff.mp e
 refine⟨F,δ,own,f1,s,e1,?_⟩
 cases f1 with
 |nx δ1=>exact fun σ' H' F' own' sF s'=>⟨F',δ1,own',fl,s',e2,k.mono sF⟩
 |bk δ1=>cases e2;exact k
 |ct δ1=>cases e2;exact k
 |rt sv=>cases e2;exact k
 |ex x δ1=>cases e2;exact k
@[simp] noncomputable def ifS(t:FT)(f g:FS):FS:=fun δ=>(t δ).bind fun p=>if p.1=true then f p.2 else g p.2
theorem Zzr{t:FT}{f g:FS}(h:Zv Z (ifS t f g) E σ H):tIfS (Zar Z t) (Zv Z f) (Zv Z g) E σ H:=by
 obtain⟨F,δ,own,fl,s,e,k⟩:=h
 obtain⟨⟨c,δ1⟩,e1,e2⟩:=Option.bind_eq_some_iff.mp e
 refine⟨F,δ,own,c,δ1,s,e1,fun H1 F1 own1 sH sF s1=>?_⟩
 cases c with
 |true=>rw[if_pos rfl]at e2⊢;exact⟨F1,δ1,own1,fl,s1,e2,k.mono sF⟩
 |false=>rw[if_neg Bool.false_ne_true]at e2⊢;exact⟨F1,δ1,own1,fl,s1,e2,k.mono sF⟩
@[simp] noncomputable def Zvm(fe:FE):FS:=fun δ=>(fe δ).bind fun p=>some (.nx p.2)
theorem Zvn{fe:FE}(h:Zv Z (Zvm fe) E σ H):Zg7 (Zc Z fe) E σ H:=by
 obtain⟨F,δ,own,fl,s,e,k⟩:=h
 obtain⟨⟨rv,δ1⟩,e1,e2⟩:=Option.bind_eq_some_iff.mp e
 cases e2
 exact⟨F,δ,own,rv,δ1,s,e1,fun v H1 F1 own1 sH sF s1 _=>k σ H1 F1 own1 sF s1⟩
@[simp] noncomputable def outF:RV→DSt→Option SV
 | .tmp sv,_=>some sv
 | .bw i,δ=>δ[i]?.join
@[simp] noncomputable def retF(fe:FE):FS:=fun δ=>(fe δ).bind fun p=>(outF p.1 p.2).bind fun sv=>some (.rt sv)
theorem Zvo{fe:FE}(h:Zv Z (retF fe) E σ H):tRet (Zc Z fe) E σ H:=by
 obtain⟨F,δ,own,fl,s,e,k⟩:=h
 obtain⟨⟨rv,δ1⟩,e1,e2⟩:=Option.bind_eq_some_iff.mp e
 obtain⟨sv,e3,e4⟩:=Option.bind_eq_some_iff.mp e2
 cases e4
 refine⟨F,δ,own,rv,δ1,s,e1,fun v H1 F1 own1 sH sF s1 r1=>?_⟩
 cases rv with
 |tmp sw=>
  cases e3
  obtain⟨ns,t⟩:=r1
  exact k v H1 F1 ns sF s1.le s1.fro s1.old t.sh t.nd t.ok
 |bw i=>
  obtain⟨w,h1,h2⟩:=s1.at' i sv (Zc2 e3)
  have r1':σ[i]? =some (some v):=r1
  rw[r1']at h1;cases h1
  exact k v H1 F1 (own1 i) sF s1.le s1.fro s1.old h2 (s1.nod i) (s1.ok i)
@[simp] noncomputable def retN:FS:=fun δ=>some (.rt (.fz .non))
@[simp] noncomputable def stow(i:Nat):RV→DSt→Option DSt
 | .tmp sv,δ=>if i<δ.length then some (δ.set i (some sv))else none
 | .bw j,δ=>(frz (.bw j) δ).bind fun p=>if i<p.2.length then some (p.2.set i (some (.fz p.1)))else none
theorem SR.stow{F:Hp}{δ δ':DSt}{own:Nat→Zp}{i:Nat}{rv:RV}{v:V}(s:SR Z F H σ δ own)(r:Zml Z F H σ own rv v)(e:DL.stow i rv δ=some δ'):∃F' own',Same F F'∧SR Z F' H (σ.set i (some v)) δ' own':=by
 cases rv with
 |tmp sv=>
  obtain⟨ns,t⟩:=r
  have e:(if i<δ.length then some (δ.set i (some sv))else none)=some δ':=e
  by_cases hi:i<δ.length
  ·rw[if_pos hi]at e;cases e
   exact⟨F,_,Same.refl F,s.store t (by rw[s.len];exact hi)⟩
  ·rw[if_neg hi]at e;cases e
 |bw j=>
  obtain⟨⟨d,δ1⟩,e1,e2⟩:=Option.bind_eq_some_iff.mp e
  obtain⟨F1,own1,sF,s1,r1⟩:=s.frzR (rv:=.bw j) (v:=v) r e1
  by_cases hi:i<δ1.length
  ·rw[if_pos hi]at e2;cases e2
   exact⟨F1,_,sF,s1.store (.fz r1) (by rw[s1.len];exact hi)⟩
  ·rw[if_neg hi]at e2;cases e2
@[simp] noncomputable def setF(i:Nat)(fe:FE):FS:=fun δ=>(fe δ).bind fun p=>(stow i p.1 p.2).bind fun δ'=>some (.nx δ')
theorem Zvp{i:Nat}{fe:FE}(h:Zv Z (setF i fe) E σ H):tAsg (Zc Z fe) (Zkv i) E σ H:=by
 obtain⟨F,δ,own,fl,s,e,k⟩:=h
 obtain⟨⟨rv,δ1⟩,e1,e2⟩:=Option.bind_eq_some_iff.mp e
 obtain⟨δ2,e3,e4⟩:=Option.bind_eq_some_iff.mp e2
 cases e4
 refine⟨F,δ,own,rv,δ1,s,e1,fun v H1 F1 own1 sH sF s1 r1=>?_⟩
 obtain⟨F2,own2,sF2,s2⟩:=s1.stow r1 e3
 exact k _ H1 F2 own2 (sF.trans sF2) s2
set_option genInjectivity false in
structure FG where
 run:D→DSt→Option DSt
 tch:List Nat
set_option genInjectivity false in
structure FGs where
 run:List D→DSt→Option DSt
 tch:List Nat
noncomputable def Zk4(Z:Ent K)(g:FG):TG:=fun v σ H Q=>∃F δ own d δ',SR Z F H σ δ own∧Rep K F d v∧g.run d δ=some δ'∧∀σ' own',SR Z F H σ' δ' own'→(∀j:Nat,j∉g.tch→σ'[j]? =σ[j]?)→Q σ' H
noncomputable def Z2j(Z:Ent K)(g:FGs):TGs:=fun vs σ H Q=>∃F δ own ds δ',SR Z F H σ δ own∧Reps K F ds vs∧g.run ds δ=some δ'∧∀σ' own',SR Z F H σ' δ' own'→(∀j:Nat,j∉g.tch→σ'[j]? =σ[j]?)→Q σ' H
noncomputable def Zap(i:Nat):FG:=⟨fun d δ=>if i<δ.length then some (δ.set i (some (.fz d)))else none,[i]⟩
theorem Zsi{i:Nat}{v:V}{Q:St→Hp→Prop}(h:Zk4 Z (Zap i) v σ H Q):Zkv i v σ H Q:=by
 obtain⟨F,δ,own,d,δ',s,r,e,k⟩:=h
 have e:(if i<δ.length then some (δ.set i (some (.fz d)))else none)=some δ':=e
 by_cases hi:i<δ.length
 ·rw[if_pos hi]at e;cases e
  exact k _ _ (s.store (.fz r) (by rw[s.len];exact hi)) fun j hj=>List.getElem?_set_ne fun z=>hj (by rw[z];exact List.mem_cons_self)
 ·rw[if_neg hi]at e;cases e
noncomputable def Zzs:FGs:=⟨fun ds δ=>match ds with
 | []=>some δ
 |_=>none,[]⟩
noncomputable def Zvq(g:FG)(r:FGs):FGs:=⟨fun ds δ=>match ds with
 |d::t=>(g.run d δ).bind fun δ1=>r.run t δ1
 | []=>none,g.tch++r.tch⟩
@[simp] theorem Zvr(i:Nat)(d:D)(δ:DSt):(Zap i).run d δ=if i<δ.length then some (δ.set i (some (.fz d)))else none:=rfl
@[simp] theorem Zyv(δ:DSt):Zzs.run [] δ=some δ:=rfl
@[simp] theorem Zvs(g:FG)(r:FGs)(d:D)(t:List D)(δ:DSt):(Zvq g r).run (d::t) δ=(g.run d δ).bind fun δ1=>r.run t δ1:=rfl
noncomputable def Zzt(n:Nat)(g:FGs):FG:=⟨fun d δ=>match d with
 | .tup xs=>if xs.length=n then g.run xs δ else none
 |_=>none,g.tch⟩
@[simp] theorem Zyw(n:Nat)(g:FGs)(xs:List D)(δ:DSt):(Zzt n g).run (.tup xs) δ=if xs.length=n then g.run xs δ else none:=rfl
@[simp] noncomputable def Zzu(g:FG)(fe:FE):FS:=fun δ=>(fe δ).bind fun p=>(frz p.1 p.2).bind fun q=>(g.run q.1 q.2).bind fun δ'=>some (.nx δ')
@[simp] noncomputable def forD(tg:FG)(body:FS):List D→DSt→Option Fl
 | [],δ=>some (.nx δ)
 |d::ds,δ=>(tg.run d δ).bind fun δ1=>(body δ1).bind fun
  | .nx δ2=>forD tg body ds δ2
  | .ct δ2=>forD tg body ds δ2
  | .bk δ2=>some (.nx δ2)
  | .rt sv=>some (.rt sv)
  | .ex x δ2=>some (.ex x δ2)
noncomputable def Zhs(K:PySem.W.Frag)(J:It)(F:Hp)(ds:List D):Prop:=∀F' H,Same F F'→Same F' H→∀i:Nat,
 (∀d,ds[i]? =some d→J.go i H∧∀x H',J.yld i H x H'→Same H H'∧∃ns,(adr ns).Nodup∧(∀p∈ns,H p.1=none∧H' p.1=some p.2)∧Rep K (addL F' ns) d x)∧(ds.length≤i→J.stop i H)
noncomputable def Zht(Z:Ent K)(f:FD):TI:=fun σ H R=>∃F δ own ds δ',SR Z F H σ δ own∧f δ=some (ds,δ')∧
 ∀J H' F' own',Same H H'→Same F F'→SR Z F' H' σ δ' own'→Zhs K J F' ds→R J H'
@[simp] noncomputable def forF(fi:FD)(tg:FG)(body:FS):FS:=fun δ=>(fi δ).bind fun p=>forD tg body p.1 p.2
theorem SR.fresh{F H':Hp}{δ:DSt}{own:Nat→Zp}{ns:Zp}(s:SR Z F H σ δ own)(sm:Same H H')(nd:(adr ns).Nodup)(h:∀p∈ns,H p.1=none∧H' p.1=some p.2):Same F (addL F ns)∧SR Z (addL F ns) H' σ δ own:=by
 refine⟨Zbu fun p hp=>s.le.free (h p hp).1,(s.grow sm).addF nd (fun p hp=>s.le.free (h p hp).1) (fun p hp=>(h p hp).2) (fun p hp=>s.old.free (h p hp).1) fun i p q hp hq e=>?_⟩
 have z:=(s.ok i q hq).2.2
 rw[←e,(h p hp).1]at z;cases z
theorem Zzv{fi:FD}{tg:FG}{body:FS}(h:Zv Z (forF fi tg body) E σ H):tFor (Zht Z fi) (Zk4 Z tg) (Zv Z body) E σ H:=by
 obtain⟨F,δ,own,fl,s,e,k⟩:=h
 obtain⟨⟨ds,δ1⟩,e1,e2⟩:=Option.bind_eq_some_iff.mp e
 refine⟨F,δ,own,ds,δ1,s,e1,fun J H1 F1 own1 sH sF s1 yl=>?_⟩
 refine⟨fun i m σ H=>m=ds.length- i∧i≤ds.length∧∃F δ own,Same F1 F∧SR Z F H σ δ own∧forD tg body (ds.drop i) δ=some fl,⟨ds.length,by simp,Nat.zero_le _,F1,δ1,own1,Same.refl F1,s1,e2⟩,?_⟩
 rintro i m σ' H' ⟨rfl,hi,F2,δ2,own2,sF2,s2,ef⟩
 by_cases hlt:i<ds.length
 ·have hd:ds[i]? =some ds[i]:=by simp[hlt]
  obtain⟨go,yy⟩:=(yl F2 H' sF2 s2.le i).1 _ hd
  rw[List.drop_eq_getElem_cons hlt]at ef
  obtain⟨δ3,e3,e4⟩:=Option.bind_eq_some_iff.mp ef
  obtain⟨f1,e5,e6⟩:=Option.bind_eq_some_iff.mp e4
  refine .inr ⟨go,fun σ4 H4=>∃F δ own,Same F1 F∧SR Z F H4 σ4 δ own∧forD tg body (ds.drop (i+1)) δ=some fl,fun σ4 H4 ⟨F4,δ4,own4,a,b,c⟩=>⟨ds.length- (i+1),by omega,rfl,hlt,F4,δ4,own4,a,b,c⟩,fun x H3 hy=>?_⟩
  obtain⟨sm,ns,nd,hn,rp⟩:=yy x H3 hy
  obtain⟨sFn,sn⟩:=s2.fresh sm nd hn
  refine⟨addL F2 ns,δ2,own2,_,δ3,sn,rp,e3,fun σ5 own5 s5 _=>⟨addL F2 ns,δ3,own5,f1,s5,e5,?_⟩⟩
  cases f1 with
  |nx δ6=>exact fun σ6 H6 F6 own6 a b=>⟨F6,δ6,own6,sF2.trans (sFn.trans a),b,e6⟩
  |ct δ6=>exact fun σ6 H6 F6 own6 a b=>⟨F6,δ6,own6,sF2.trans (sFn.trans a),b,e6⟩
  |bk δ6=>
   cases e6
   exact fun σ6 H6 F6 own6 a b=>k σ6 H6 F6 own6 (sF.trans (sF2.trans (sFn.trans a))) b
  |rt sv=>
   cases e6
   exact fun v H6 F6 ns6 a=>k v H6 F6 ns6 (sF.trans (sF2.trans (sFn.trans a)))
  |ex x δ6=>
   cases e6
   exact fun σ6 H6 F6 own6 cls od a=>k σ6 H6 F6 own6 cls od (sF.trans (sF2.trans (sFn.trans a)))
 ·have hz:i=ds.length:=by omega
  subst hz
  rw[List.drop_length]at ef
  cases ef
  exact .inl ⟨(yl F2 H' sF2 s2.le _).2 (Nat.le_refl _),k σ' H' F2 own2 (sF.trans sF2) s2⟩
noncomputable def Zbk(t:FT)(body:FS):Nat→DSt→Option Fl
 |0,_=>none
 |n+1,δ=>(t δ).bind fun p=>if p.1=true then(body p.2).bind (fun
  | .nx δ2=>Zbk t body n δ2
  | .ct δ2=>Zbk t body n δ2
  | .bk δ2=>some (.nx δ2)
  | .rt sv=>some (.rt sv)
  | .ex x δ2=>some (.ex x δ2))else some (.nx p.2)
theorem Zsj{n:Nat}{t:FT}{body:FS}(h:Zv Z (Zbk t body n) E σ H):Zqe (Zar Z t) (Zv Z body) E σ H:=by
 obtain⟨F,δ,own,fl,s,e,k⟩:=h
 refine⟨fun m σ H=>∃F2 δ own,Same F F2∧SR Z F2 H σ δ own∧Zbk t body m δ=some fl,⟨n,F,δ,own,Same.refl F,s,e⟩,?_⟩
 rintro m σ1 H1 ⟨F1,δ1,own1,sF1,s1,e1⟩
 cases m with
 |zero=>cases e1
 |succ m=>
  obtain⟨⟨c,δ2⟩,e2,e3⟩:=Option.bind_eq_some_iff.mp e1
  refine⟨F1,δ1,own1,c,δ2,s1,e2,fun H2 F2 own2 sH sF2 s2=>?_⟩
  cases c with
  |false=>
   rw[if_neg Bool.false_ne_true]at e3⊢
   cases e3
   exact k σ1 H2 F2 own2 (sF1.trans sF2) s2
  |true=>
   rw[if_pos rfl]at e3⊢
   obtain⟨f1,e4,e5⟩:=Option.bind_eq_some_iff.mp e3
   refine⟨fun σ' H'=>∃F2 δ own,Same F F2∧SR Z F2 H' σ' δ own∧Zbk t body m δ=some fl,fun σ' H' w=>⟨m,Nat.lt_succ_self m,w⟩,F2,δ2,own2,f1,s2,e4,?_⟩
   cases f1 with
   |nx δ6=>exact fun σ6 H6 F6 own6 a b=>⟨F6,δ6,own6,sF1.trans (sF2.trans a),b,e5⟩
   |ct δ6=>exact fun σ6 H6 F6 own6 a b=>⟨F6,δ6,own6,sF1.trans (sF2.trans a),b,e5⟩
   |bk δ6=>
    cases e5
    exact fun σ6 H6 F6 own6 a b=>k σ6 H6 F6 own6 (sF1.trans (sF2.trans a)) b
   |rt sv=>
    cases e5
    exact fun v H6 F6 ns6 a=>k v H6 F6 ns6 (sF1.trans (sF2.trans a))
   |ex x δ6=>
    cases e5
    exact fun σ6 H6 F6 own6 cls od a=>k σ6 H6 F6 own6 cls od (sF1.trans (sF2.trans a))
@[simp] noncomputable def seqI(fe:FE):FD:=fun δ=>(fe δ).bind fun p=>(frz p.1 p.2).bind fun q=>match q.1 with
 | .lst xs=>some (xs,q.2)
 | .tup xs=>some (xs,q.2)
 |_=>none
noncomputable def iSeq(K:PySem.W.Frag)(tl:TE):TI:=fun σ H R=>tl σ H fun x H1=>(∃a,x= .ref a∧(∃xs,SqL K H1 a xs)∧R (Itl K a) H1)∨(∃a,x= .ref a∧(∃xs,SqT K H1 a xs)∧R (Itt K a) H1)
theorem Ziy{F:Hp}{a:Addr}{xs:List D}{vs:List V}(h:SqL K F a vs)(r:Reps K F xs vs):Zhs K (Itl K a) F xs:=fun F' H sF sH i=>by
 have q:SqL K H a vs:=Zb0 (sF.trans sH) h
 refine⟨fun d hd=>?_,fun hl=>⟨vs,q,by rw[←r.length];exact hl⟩⟩
 obtain⟨v,h1,h2⟩:=r.get hd
 refine⟨⟨vs,v,q,h1⟩,fun x H' zq9=>?_⟩
 obtain⟨e1,e2⟩:=zq9
 subst e1
 have e3:=e2 vs q
 rw[h1]at e3;cases e3
 exact⟨Same.refl _,[],List.nodup_nil,fun _ h=>(nomatch h),h2.mono sF⟩
theorem Zk5{F:Hp}{a:Addr}{xs:List D}{vs:List V}(h:SqT K F a vs)(r:Reps K F xs vs):Zhs K (Itt K a) F xs:=fun F' H sF sH i=>by
 have q:SqT K H a vs:=Zcj (sF.trans sH) h
 refine⟨fun d hd=>?_,fun hl=>⟨vs,q,by rw[←r.length];exact hl⟩⟩
 obtain⟨v,h1,h2⟩:=r.get hd
 refine⟨⟨vs,v,q,h1⟩,fun x H' zq9=>?_⟩
 obtain⟨e1,e2⟩:=zq9
 subst e1
 have e3:=e2 vs q
 rw[h1]at e3;cases e3
 exact⟨Same.refl _,[],List.nodup_nil,fun _ h=>(nomatch h),h2.mono sF⟩
noncomputable def Ziz(lo:Int)(n:Nat):List D:=(List.range n).map fun i=>.int (lo+(i:Nat))
theorem Zhu{lo:Int}{n:Nat}{F:Hp}:Zhs K (Itr lo n) F (Ziz lo n):=fun F' H sF sH i=>by
 have hl:(Ziz lo n).length=n:=by unfold Ziz;rw[List.length_map,List.length_range]
 refine⟨fun d hd=>?_,fun h=>by rw[hl]at h;exact h⟩
 have hi:i<n:=by
  have:=(List.getElem?_eq_some_iff.mp hd).1
  rw[hl]at this;exact this
 refine⟨hi,fun x H' zq9=>?_⟩
 obtain⟨e1,e2⟩:=zq9
 subst e1 e2
 unfold Ziz at hd
 rw[List.getElem?_map,List.getElem?_range hi]at hd
 cases hd
 exact⟨Same.refl _,[],List.nodup_nil,fun _ h=>(nomatch h),.int _⟩
noncomputable def rngP(j:Int):Prop:=-(2^62)≤j∧j<2^62
theorem Zsk{j:Int}(h0:0≤j)(h:j≤16777216):rngP j:=⟨by omega,by omega⟩
theorem Zpa{n:Nat}(h:n≤16777216):rngP (n:Int):=Zsk (by omega) (by omega)
open Classical in
@[simp] noncomputable def rngI(fa:FA):FD:=fun δ=>(fa δ).bind fun p=>match Zdr p.1 p.2 with
 |some [.int j]=>if rngP j then some (Ziz 0 j.toNat,p.2)else none
 |_=>none
theorem Zvt{fa:FA}{R:It→Hp→Prop}(h:Zht Z (rngI fa) σ H R):Zuy (Zd5 Z fa) σ H R:=by
 obtain⟨F,δ,own,ds,δ',s,e,k⟩:=h
 obtain⟨⟨rvs,δ1⟩,e1,e2⟩:=Option.bind_eq_some_iff.mp e
 refine⟨F,δ,own,rvs,δ1,s,e1,fun vs H1 F1 own1 sH sF s1 r1=>?_⟩
 dsimp only at e2
 split at e2
 ·rename_i j hj
  have rn:=s1.rdAll r1 hj
  cases rn with
  |cons h t=>
   cases t
   by_cases hb:rngP j
   ·rw[if_pos hb]at e2
    cases e2
    exact⟨j,by rw[h.int],hb.1,hb.2,k _ H1 F1 own1 sH sF s1 Zhu⟩
   ·rw[if_neg hb]at e2;cases e2
 ·cases e2
@[simp] noncomputable def appF(i:Nat)(fe:FE):FS:=fun δ=>match δ[i]? with
 |some (some (.ol _))=>(fe δ).bind fun p=>(frz p.1 p.2).bind fun q=>match q.2[i]? with
  |some (some (.ol xs))=>if xs.length<PySem.sizeLine then some (.nx (q.2.set i (some (.ol (xs++[q.1])))))else none
  |_=>none
 |_=>none
theorem Ze8{F:Hp}{xs:List D}{v:V}{ns:Zp}(h:Shape K F (.ol xs) v ns):∃a vs,v= .ref a∧ns=[(a,.lst vs)]∧Reps K F xs vs:=by
 cases h with
 |ol r=>exact⟨_,_,rfl,rfl,r⟩
theorem Zzw{i:Nat}{fe:FE}(h:Zv Z (appF i fe) E σ H):Zg7 (tBM K "list" Zcz (tVar i) (Zee (Zc Z fe) tNil)) E σ H:=by
 obtain⟨F,δ,own,fl,s,e,k⟩:=h
 unfold appF at e
 split at e
 ·rename_i xs0 hx0
  obtain⟨⟨rv,δ1⟩,e1,e2⟩:=Option.bind_eq_some_iff.mp e
  obtain⟨⟨d,δ2⟩,e3,e4⟩:=Option.bind_eq_some_iff.mp e2
  obtain⟨v,hv,sh⟩:=s.at' i _ hx0
  obtain⟨a,vs0,ev,en,r0⟩:=Ze8 sh
  refine⟨v,hv,?_,F,δ,own,rv,δ1,s,e1,fun y H1 F1 own1 sH sF s1 r1=>?_⟩
  ·subst ev
   exact .inl ⟨rfl,vs0,.inl (.inl (s.ok i (a,.lst vs0) (by rw[en];exact List.mem_cons_self)).2.2)⟩
  obtain⟨F2,sF2,s2,r2⟩:=s1.settleR r1
  obtain⟨F3,own3,sF3,s3,r3⟩:=s2.frzR r2 e3
  dsimp only at e4
  split at e4
  ·rename_i xs hx
   by_cases hz:xs.length<PySem.sizeLine
   ·rw[if_pos hz]at e4
    cases e4
    obtain⟨v',hv',sh'⟩:=s3.at' i _ hx
    rw[hv]at hv';cases hv'
    obtain⟨b,vs,eb,en',r'⟩:=Ze8 sh'
    have mb:(b,HO.lst vs)∈own3 i:=by rw[en'];exact List.mem_cons_self
    subst eb
    refine⟨b,vs,y,rfl,rfl,(s3.ok i _ mb).2.2,by rw[←r'.length];exact hz,?_⟩
    exact k σ _ F3 _ (sF.trans (sF2.trans sF3)) (s3.change (sv':=.ol (xs++[d])) (o':=.lst (vs++[y])) (ns':=[(b,.lst (vs++[y]))]) hx hv mb (.ol (r'.snoc r3)) (fun p hp=>.inl (List.mem_singleton.mp hp)) nd1)
   ·rw[if_neg hz]at e4;cases e4
  ·cases e4
 ·cases e
end
@[simp] noncomputable def Zf8(n:Nat)(ds:List D):DSt:=ds.map (fun d=>some (.fz d))++List.replicate (n- ds.length) none
theorem Zgk{N:List Str}{F H:Hp}{ds:List D}{vs:List V}(le:Same F H)(r:Reps K F ds vs):SR (ent H F:Ent K) F H (L2.start N vs) (Zf8 N.length ds) fun _=>[]:=by
 have hl:=r.length
 refine⟨le,fun b o e=>.inl e,Same.refl H,?_,fun i sv e=>?_,fun _=>List.nodup_nil,fun _ _ h=>(nomatch h),fun _ _ _ _ _ h=>(nomatch h)⟩
 ·unfold L2.start Zf8
  rw[List.length_append,List.length_append,List.length_map,List.length_map,List.length_replicate,List.length_replicate,hl]
 ·unfold Zf8 at e
  by_cases hi:i<ds.length
  ·rw[List.getElem?_append_left (by simpa using hi),List.getElem?_map]at e
   cases hd:ds[i]? with
   |none=>rw[hd]at e;cases e
   |some d=>
    rw[hd]at e;cases e
    obtain⟨v,h1,h2⟩:=r.get hd
    refine⟨v,?_,.fz h2⟩
    unfold L2.start
    rw[List.getElem?_append_left (by rw[List.length_map];omega),List.getElem?_map,h1]
    rfl
  ·rw[List.getElem?_append_right (by simpa using hi),List.getElem?_replicate]at e
   split at e<;> cases e
theorem Zpb{n:Nat}{g:List D→Option SV}{vs:List V}{H:Hp}{Q:VK}{E:XK}(h:spOf K n g vs H Q E):vs.length=n:=by
 obtain⟨F,ds,sv,le,r,hn,e,k⟩:=h
 rw[←r.length];exact hn
end DL
namespace DL
open PySem L2
variable{K:PySem.W.Frag}
noncomputable def xG(K:PySem.W.Frag)(g:FG):TG:=fun v σ H Q=>∃Z:Ent K,Zk4 Z g v σ H Q
noncomputable def xT(K:PySem.W.Frag)(f:FT):TT:=fun σ H Q=>∃Z:Ent K,Zar Z f σ H Q
noncomputable def xE(K:PySem.W.Frag)(f:FE):TE:=fun σ H Q=>∃Z:Ent K,Zc Z f σ H Q
noncomputable def Zhv:FT:=fun δ=>some (true,δ)
@[simp] theorem Zyx(δ:DSt):Zhv δ=some (true,δ):=rfl
@[simp] noncomputable def caps(src:List BSrc):List RV:=src.filterMap fun
 | .cap j=>some (.bw j)
 |_=>none
@[simp] noncomputable def Zmq(δ:DSt):BSrc→Option SV
 | .own=>none
 | .cap j=>match δ[j]?.join with
  |some (.fz d)=>some (.fz d)
  |_=>none
 | .acc=>some (.ol [])
@[simp] noncomputable def bD(src:List BSrc)(δ:DSt):DSt:=src.map (Zmq δ)
@[simp] noncomputable def Zfg:BSrc→Option SV→Option SV
 | .own,_=>none
 |_,o=>o
@[simp] noncomputable def Zej:List BSrc→DSt→DSt
 |b::r,o::t=>Zfg b o::Zej r t
 |_,t=>t
@[simp] noncomputable def Zgl(src:List BSrc)(k:Nat)(g:FG)(tt:FT)(te:FE):List D→DSt→Option DSt
 | [],δ=>some δ
 |d::ds,δ=>(g.run d δ).bind fun δ1=>(tt δ1).bind fun p=>if p.1=true then(te p.2).bind fun q=>(frz q.1 q.2).bind fun r=>match r.2[k]? with
   |some (some (.ol zs))=>if zs.length<PySem.sizeLine then Zgl src k g tt te ds (Zej src (r.2.set k (some (.ol (zs++[r.1])))))else none
   |_=>none
  else Zgl src k g tt te ds (Zej src p.2)
@[simp] noncomputable def Zpc(src:List BSrc)(k:Nat)(fi:FD)(g:FG)(tt:FT)(te:FE):FE:=fun δ=>(fi δ).bind fun p=>(frzAll (caps src) p.2).bind fun c=>(Zgl src k g tt te p.1 (bD src c.2)).bind fun δb=>match δb[k]? with
 |some (some (.ol ys))=>some (.tmp (.ol ys),c.2)
 |_=>none
theorem Zfh:∀(src:List BSrc) (δ:DSt),(Zej src δ).length=δ.length
 | [],t=>by unfold Zej;rfl
 |_::_,[]=>by unfold Zej;rfl
 |b::r,o::t=>by show(Zfg b o::Zej r t).length=_;rw[List.length_cons,List.length_cons,Zfh r t]
theorem Zfi:∀{src:List BSrc} {δ:DSt} {i:Nat} {sv:SV},(Zej src δ)[i]? =some (some sv)→δ[i]? =some (some sv)
 | [],_,_,_,h=>h
 |_::_,[],_,_,h=>h
 |b::r,o::t,0,sv,h=>by
  have h:some (Zfg b o)=some (some sv):=h
  cases b with
  |own=>cases h
  |cap j=>exact h
  |acc=>exact h
 |b::r,o::t,i+1,sv,h=>by
  have h:(Zej r t)[i]? =some (some sv):=h
  show t[i]? =_
  exact Zfi h
section
variable{Z:Ent K}{F H:Hp}{σ:St}{δ δ':DSt}{own:Nat→Zp}
theorem SR.forget(s:SR Z F H σ δ own)(hl:δ'.length=δ.length)(h:∀(i:Nat) (sv:SV),δ'[i]? =some (some sv)→δ[i]? =some (some sv)):SR Z F H σ δ' own:=
 ⟨s.le,s.fro,s.old,s.len.trans hl.symm,fun i sv e=>s.at' i sv (h i sv e),s.nod,s.ok,s.sep⟩
theorem SR.caps:∀{rvs:List RV} {ds:List D} {δ δ':DSt} {F:Hp} {own:Nat→Zp},(∀rv∈rvs,∃j,rv= .bw j)→SR Z F H σ δ own→DL.frzAll rvs δ=some (ds,δ')→∃F1 own1,Same F F1∧SR Z F1 H σ δ' own1
 | [],_,_,_,F,own,_,s,e=>by cases e;exact⟨F,own,Same.refl F,s⟩
 |rv::r,_,_,_,F,own,hb,s,e=>by
  obtain⟨⟨d,δ1⟩,e1,e2⟩:=Option.bind_eq_some_iff.mp e
  obtain⟨⟨ds,δ2⟩,e3,e4⟩:=Option.bind_eq_some_iff.mp e2
  cases e4
  obtain⟨j,rfl⟩:=hb rv List.mem_cons_self
  obtain⟨sv,e5,e6⟩:=Option.bind_eq_some_iff.mp e1
  cases e6
  obtain⟨F1,v,sF,_,_,s1⟩:=s.freeze (Zc2 e5)
  obtain⟨F2,own2,sF2,s2⟩:=SR.caps (fun rv h=>hb rv (List.mem_cons_of_mem _ h)) s1 e3
  exact⟨F2,own2,sF.trans sF2,s2⟩
theorem SR.after{F3 H3:Hp}(s2:SR Z F H σ δ own)(sH3:Same H H3)(sF3:Same F F3)(le3:Same F3 H3)(fro3:∀(b:Addr) (o:HO),F3 b=some o→F b=some o∨H b=none):SR Z F3 H3 σ δ own:=by
 refine⟨le3,fun b o e=>?_,s2.old.trans sH3,s2.len,fun i sw ei=>?_,s2.nod,fun i p hp=>?_,s2.sep⟩
 ·rcases fro3 b o e with z|z
  ·exact s2.fro b o z
  ·exact .inr (s2.old.free z)
 ·obtain⟨w,h1,h2⟩:=s2.at' i sw ei
  exact⟨w,h1,h2.mono sF3⟩
 ·obtain⟨a,b,c⟩:=s2.ok i p hp
  refine⟨?_,b,sH3 _ _ c⟩
  cases z:F3 p.1 with
  |none=>rfl
  |some u=>
   rcases fro3 _ u z with y|y
   ·rw[a]at y;cases y
   ·rw[c]at y;cases y
end
structure SrcOk(src:List BSrc)(k:Nat):Prop where
 acc:src[k]? =some .acc
 uni:∀i:Nat,src[i]? =some .acc→i=k
theorem Zpd{Z:Ent K}{F H:Hp}{σ:St}{δ:DSt}{own:Nat→Zp}{src:List BSrc}{k:Nat}{acc:Addr}(S:SrcOk src k)(s:SR Z F H σ δ own)(ha:H acc=none):
  SR (ent H F:Ent K) F (upd H acc (.lst [])) (bSt src σ acc) (bD src δ) (fun i=>if i=k then[(acc,.lst [])]else[]):=by
 have mem:∀{i:Nat} {p:Addr×HO},p∈(if i=k then[(acc,HO.lst [])]else[])→i=k∧p=(acc,.lst []):=fun{i p} h=>by
  by_cases hi:i=k
  ·rw[if_pos hi]at h;exact⟨hi,List.mem_singleton.mp h⟩
  ·rw[if_neg hi]at h;exact nomatch h
 refine⟨s.le.trans (Zbo ha),fun b o e=>.inl e,Zbo ha,by unfold bSt bD;rw[List.length_map,List.length_map],fun i sv e=>?_,fun i=>?_,fun i p hp=>?_,fun i j p q hij hp hq=>?_⟩
 ·unfold bD at e
  rw[List.getElem?_map]at e
  cases hq:src[i]? with
  |none=>rw[hq]at e;cases e
  |some q=>
   rw[hq]at e
   have e:Zmq δ q=some sv:=Option.some.inj e
   cases q with
   |own=>cases e
   |acc=>
    cases e
    have hi:=S.uni i hq
    refine⟨.ref acc,by unfold bSt;rw[List.getElem?_map,hq];rfl,?_⟩
    show Shape K F (.ol []) (.ref acc) (if i=k then[(acc,.lst [])]else[])
    rw[if_pos hi]
    exact .ol .nil
   |cap j=>
    have hi:i≠k:=fun z=>by rw[z,S.acc]at hq;cases hq
    unfold Zmq at e
    dsimp only at e
    split at e
    ·rename_i d hd
     cases e
     obtain⟨v,h1,h2⟩:=s.at' j _ (Zc2 hd)
     refine⟨v,by unfold bSt;rw[List.getElem?_map,hq];show some (σ[j]?).join=_;rw[h1];rfl,?_⟩
     show Shape K F (.fz d) v (if i=k then[(acc,.lst [])]else[])
     rw[if_neg hi]
     exact .fz (Zb1 h2)
    ·cases e
 ·show(adr (if i=k then[(acc,HO.lst [])]else[])).Nodup
  by_cases hi:i=k
  ·rw[if_pos hi];exact nd1
  ·rw[if_neg hi];exact List.nodup_nil
 ·obtain⟨_,rfl⟩:=mem hp
  exact⟨s.le.free ha,ha,Zab⟩
 ·obtain⟨z,_⟩:=mem hp
  obtain⟨y,_⟩:=mem hq
  exact absurd (z.trans y.symm) hij
theorem Zvu{Z:Ent K}{H:Hp}{σ:St}{Q:VK}{src:List BSrc}{k:Nat}{fi:FD}{g:FG}{tt:FT}{te:FE}(S:SrcOk src k)(hk:k∉g.tch)(h:Zc Z (Zpc src k fi g tt te) σ H Q):
  Zvh src (Zht Z fi) (xG K g) (xT K tt) (xE K te) σ H Q:=by
 obtain⟨F,δ,own,rv,δ',s,e,k0⟩:=h
 obtain⟨⟨ds,δ1⟩,e1,e2⟩:=Option.bind_eq_some_iff.mp e
 obtain⟨⟨cs,δ2⟩,e3,e4⟩:=Option.bind_eq_some_iff.mp e2
 obtain⟨δf,e5,e6⟩:=Option.bind_eq_some_iff.mp e4
 refine⟨F,δ,own,ds,δ1,s,e1,fun J H1 F1 own1 sH sF s1 yl acc ha=>?_⟩
 obtain⟨F2,own2,sF2,s2⟩:=s1.caps (fun rv hr=>by
  unfold DL.caps at hr
  obtain⟨b,_,hb⟩:=List.mem_filterMap.mp hr
  cases b with
  |own=>cases hb
  |acc=>cases hb
  |cap j=>cases hb;exact⟨j,rfl⟩) e3
 have s3:=Zpd S s2 ha
 have hacc0:(bSt src σ acc)[k]? =some (some (.ref acc)):=by unfold bSt;rw[List.getElem?_map,S.acc];rfl
 refine⟨fun i m σ' H=>m=ds.length- i∧i≤ds.length∧σ'[k]? =some (some (.ref acc))∧∃F δ own,Same F2 F∧SR (ent H1 F2:Ent K) F H σ' δ own∧Zgl src k g tt te (ds.drop i) δ=some δf,
  ⟨ds.length,by simp,Nat.zero_le _,hacc0,F2,_,_,Same.refl F2,s3,e5⟩,?_⟩
 rintro i m σ4 H4 ⟨rfl,hi,hacc,F4,δ4,own4,sF4,s4,ef⟩
 by_cases hlt:i<ds.length
 ·have hd:ds[i]? =some ds[i]:=by simp[hlt]
  obtain⟨go,yy⟩:=(yl F4 H4 (sF2.trans sF4) s4.le i).1 _ hd
  rw[List.drop_eq_getElem_cons hlt]at ef
  obtain⟨δ5,e7,e8⟩:=Option.bind_eq_some_iff.mp ef
  obtain⟨⟨b,δ6⟩,e9,e10⟩:=Option.bind_eq_some_iff.mp e8
  refine .inr ⟨go,fun x H5 hy=>?_⟩
  obtain⟨sm,ns,nd,hn,rp⟩:=yy x H5 hy
  obtain⟨sFn,sn⟩:=s4.fresh sm nd hn
  refine⟨(ent H1 F2:Ent K),addL F4 ns,δ4,own4,_,δ5,sn,rp,e7,fun σ6 own6 s6 t6=>⟨(ent H1 F2:Ent K),addL F4 ns,δ5,own6,b,δ6,s6,e9,fun H7 F7 own7 sH7 sF7 s7=>?_⟩⟩
  have hacc6:σ6[k]? =some (some (.ref acc)):=(t6 k hk).trans hacc
  cases b with
  |false=>
   dsimp only
   rw[if_neg Bool.false_ne_true]at e10⊢
   exact⟨ds.length- (i+1),by omega,rfl,hlt,hacc6,F7,_,own7,sF4.trans (sFn.trans sF7),s7.forget (Zfh src δ6) (fun j sv hj=>Zfi hj),e10⟩
  |true=>
   dsimp only
   rw[if_pos rfl]at e10⊢
   obtain⟨⟨rv8,δ8⟩,e11,e12⟩:=Option.bind_eq_some_iff.mp e10
   obtain⟨⟨d9,δ9⟩,e13,e14⟩:=Option.bind_eq_some_iff.mp e12
   refine⟨(ent H1 F2:Ent K),F7,δ6,own7,rv8,δ8,s7,e11,fun y H8 F8 own8 sH8 sF8 s8 r8=>?_⟩
   obtain⟨F9,sF9,s9,r9⟩:=s8.settleR r8
   obtain⟨F10,own10,sF10,s10,r10⟩:=s9.frzR r9 e13
   dsimp only at e14
   split at e14
   ·rename_i zs hz
    by_cases hzl:zs.length<PySem.sizeLine
    ·rw[if_pos hzl]at e14
     obtain⟨v',hv',sh'⟩:=s10.at' k _ hz
     rw[hacc6]at hv';cases hv'
     obtain⟨b,vs,eb,en',r'⟩:=Ze8 sh'
     cases eb
     have mb:(acc,HO.lst vs)∈own10 k:=by rw[en'];exact List.mem_cons_self
     refine⟨acc,vs,y,rfl,rfl,(s10.ok k _ mb).2.2,by rw[←r'.length];exact hzl,?_⟩
     have s11:=s10.change (sv':=.ol (zs++[d9])) (o':=.lst (vs++[y])) (ns':=[(acc,.lst (vs++[y]))]) hz hacc6 mb (.ol (r'.snoc r10)) (fun p hp=>.inl (List.mem_singleton.mp hp)) nd1
     exact⟨ds.length- (i+1),by omega,rfl,hlt,hacc6,F10,_,_,sF4.trans (sFn.trans (sF7.trans (sF8.trans (sF9.trans sF10)))),s11.forget (Zfh src _) (fun j sv hj=>Zfi hj),e14⟩
    ·rw[if_neg hzl]at e14;cases e14
   ·cases e14
 ·have hz:i=ds.length:=by omega
  subst hz
  rw[List.drop_length]at ef
  cases ef
  refine .inl ⟨(yl F4 H4 (sF2.trans sF4) s4.le _).2 (Nat.le_refl _),?_⟩
  dsimp only at e6
  split at e6
  ·rename_i ys hys
   cases e6
   obtain⟨v',hv',sh'⟩:=s4.at' k _ hys
   rw[hacc]at hv';cases hv'
   obtain⟨b,vs,eb,en',r'⟩:=Ze8 sh'
   cases eb
   have mb:(acc,HO.lst vs)∈own4 k:=by rw[en'];exact List.mem_cons_self
   obtain⟨o1,o2,o3⟩:=s4.ok k _ mb
   refine k0 (.ref acc) H4 F4 own2 (sH.trans s4.old) (sF.trans (sF2.trans sF4)) (s2.after s4.old sF4 s4.le fun b o e=>s4.fro b o e) ⟨[(acc,.lst vs)],.ol r',nd1,fun p hp=>?_,fun j p q hp hq e=>?_⟩
   ·obtain rfl:=List.mem_singleton.mp hp
    exact⟨o1,s2.old.free ha,o3⟩
   ·obtain rfl:=List.mem_singleton.mp hp
    have z:=(s2.ok j q hq).2.2
    have e':acc=q.1:=e
    rw[←e',ha]at z;cases z
  ·cases e6
end DL
namespace DL
open PySem PySem.Spec PyProof.Rows L2
variable{K:PySem.W.Frag}
variable{Z:Ent K}
@[simp] noncomputable def intI(f:Int→Int→D):D→D→Option SV
 | .int i,.int j=>some (.fz (f i j))
 |_,_=>none
@[simp] noncomputable def intC(C:Int→Int→Bool)(f:Int→Int→D):D→D→Option SV
 | .int i,.int j=>if C i j=true then some (.fz (f i j))else none
 |_,_=>none
theorem Zpe{g:Int→Int→V}{f:Int→Int→D}(hr:∀F i j,Rep K F (f i j) (g i j)):Zbg Z (rI0 g) (intI f):=by
 intro F H σ δ own x y d1 d2 sv Q s r1 r2 e k
 unfold intI at e
 split at e
 ·cases e
  exact⟨_,_,r1.int,r2.int,k.fz s (hr _ _ _)⟩
 ·cases e
theorem p_rI{C:Int→Int→Prop}{c:Int→Int→Bool}{g:Int→Int→V}{f:Int→Int→D}(hc:∀i j,c i j=true→C i j)(hr:∀F i j,Rep K F (f i j) (g i j)):Zbg Z (rI C g) (intC c f):=by
 intro F H σ δ own x y d1 d2 sv Q s r1 r2 e k
 unfold intC at e
 split at e
 ·split at e
  ·rename_i hcc
   cases e
   exact⟨_,_,r1.int,r2.int,hc _ _ hcc,k.fz s (hr _ _ _)⟩
  ·cases e
 ·cases e
@[simp] noncomputable def subD:D→D→Option SV:=intI fun i j=>.int (i- j)
noncomputable def cMul(i j:Int):Bool:=(decide (-(2^64)<i)&&decide (i<2^64))|| (decide (-(2^64)<j)&&decide (j<2^64))
@[simp] noncomputable def mulD:D→D→Option SV:=intC cMul fun i j=>.int (i*j)
@[simp] noncomputable def cDiv(i j:Int):Bool:=decide (0<j)&&decide (j<1073741824)
@[simp] noncomputable def Zi0:D→D→Option SV:=intC cDiv fun i j=>.int (i / j)
@[simp] noncomputable def cMod(i j:Int):Bool:=decide (0<j)
@[simp] noncomputable def modD:D→D→Option SV:=intC cMod fun i j=>.int (i % j)
@[simp] noncomputable def cPow(i j:Int):Bool:=decide (0≤j)&&decide (j≤1000000)&&decide (i.natAbs<2^64)
@[simp] noncomputable def powD:D→D→Option SV:=intC cPow fun i j=>.int (i^j.toNat)
theorem Zzx:Zbg Z (rI0 fun i j=>V.int (i- j)) subD:=Zpe fun _ _ _=>.int _
theorem Zzy:Zbg Z (rI CMul fun i j=>V.int (i*j)) mulD:=p_rI (fun i j h=>by
 unfold cMul at h
 simp only[Bool.or_eq_true,Bool.and_eq_true,decide_eq_true_eq]at h
 exact h) fun _ _ _=>.int _
theorem Zvv:Zbg Z (rI CDiv fun i j=>V.int (i / j)) Zi0:=p_rI (fun i j h=>by
 unfold cDiv at h
 simp only[Bool.and_eq_true,decide_eq_true_eq]at h
 exact h) fun _ _ _=>.int _
theorem Zzz:Zbg Z (rI (fun _ j=>0<j) fun i j=>V.int (i % j)) modD:=p_rI (fun i j h=>by
 unfold cMod at h
 simp only[decide_eq_true_eq]at h
 exact h) fun _ _ _=>.int _
@[simp] noncomputable def ltD:D→D→Option SV:=intI fun i j=>.bl (decide (i<j))
@[simp] noncomputable def leD:D→D→Option SV:=intI fun i j=>.bl (decide (i≤j))
@[simp] noncomputable def gtD:D→D→Option SV:=intI fun i j=>.bl (decide (j<i))
@[simp] noncomputable def geD:D→D→Option SV:=intI fun i j=>.bl (decide (j≤i))
theorem p_lt:Zbg Z (rI0 fun i j=>V.bl (decide (i<j))) ltD:=Zpe fun _ _ _=>.bl _
theorem p_le:Zbg Z (rI0 fun i j=>V.bl (decide (i≤j))) leD:=Zpe fun _ _ _=>.bl _
theorem p_gt:Zbg Z (rI0 fun i j=>V.bl (decide (j<i))) gtD:=Zpe fun _ _ _=>.bl _
noncomputable def rStr:R2:=fun x y H Q=>∃i j,x= .str i∧y= .str j∧i.length+j.length≤PySem.sizeLine∧Q (.str (i++j)) H
noncomputable def Zvw(K:PySem.W.Frag):R2:=fun x y H Q=>∃l b xs zs,x= .ref l∧y= .ref b∧SqL K H l xs∧SqL K H b zs∧xs.length+zs.length≤PySem.sizeLine∧∀p,H p=none→Q (.ref p) (upd H p (.lst (xs++zs)))
theorem Zsl{X:Cx}:OpR X (binaryOp .Add) (Zvw X.K):=by
 intro pins s σ H x y v u Q I rx ry h
 obtain⟨l,b,xs,zs,rfl,rfl,hH,hB,hz,q⟩:=h
 cases rx
 cases ry
 obtain⟨its,r,pl,z⟩:=I.list hH
 obtain⟨its2,r2,pl2,z2⟩:=I.list hB
 have hl:=r.length
 have hl2:=r2.length
 obtain⟨⟨cls,dd,data,sl⟩,ho,hc,n,hd⟩:=pl.isList
 obtain⟨⟨cls2,dd2,data2,sl2⟩,ho2,hc2,n2,hd2⟩:=pl2.isList
 simp only at hc hd hc2 hd2
 subst hc hd hc2 hd2
 have ea:its.toArray++its2.toArray=(its++its2).toArray:=by simp
 refine concat_meets ⟨_,ho,rfl⟩ ⟨_,ho2,rfl⟩ noFill_list_add seq_list_add PySem.F.slot_list_add PySem.F.entry_list_add (PySem.F.args_list_add_2 _ _) (list_addW l b its.toArray its2.toArray n n2 dd dd2 sl sl2 (by rw[List.size_toArray,List.size_toArray];omega)) ⟨ho,ho2,?_⟩
 rw[ea]
 exact⟨.ref _,_,I.lnew (t':=s.toks) (r.append r2) (by rw[List.length_append];omega),rfl,q _ I.fresh⟩
noncomputable def Zvx(K:PySem.W.Frag):R2:=fun x y H Q=>rI0 (fun i j=>V.int (i+j)) x y H Q∨(rStr x y H Q∨Zvw K x y H Q)
theorem Zsm{X:Cx}:OpR X (binaryOp .Add) (Zvx X.K):=Zu1.or (Zky.or Zsl)
@[simp] noncomputable def addD:D→D→Option SV
 | .int i,.int j=>some (.fz (.int (i+j)))
 | .str x,.str y=>if x.length+y.length≤PySem.sizeLine then some (.fz (.str (x++y)))else none
 | .lst xs,.lst ys=>if xs.length+ys.length≤PySem.sizeLine then some (.ol (xs++ys))else none
 |_,_=>none
theorem Zz0:Zbg Z (Zvx K) addD:=by
 intro F H σ δ own x y d1 d2 sv Q s r1 r2 e k
 unfold addD at e
 split at e
 ·cases e
  exact .inl ⟨_,_,r1.int,r2.int,k.fz s (.int _)⟩
 ·split at e
  ·rename_i hz
   cases e
   exact .inr (.inl ⟨_,_,r1.str,r2.str,hz,k.fz s (.str _)⟩)
  ·cases e
 ·split at e
  ·rename_i hz
   cases e
   obtain⟨a,vs,ex,ha,ra⟩:=r1.lst s.le
   obtain⟨b,us,ey,hb,rb⟩:=r2.lst s.le
   exact .inr (.inr ⟨a,b,vs,us,ex,ey,ha,hb,by rw[←ra.length,←rb.length];exact hz,fun p hp=>k.lst s (ra.append rb) hp⟩)
  ·cases e
 ·cases e
@[simp] noncomputable def eqS:D→D→Option Bool
 | .non,.non=>some true
 | .non,.int _=>some false
 | .int _,.non=>some false
 | .non,.bl _=>some false
 | .bl _,.non=>some false
 | .non,.str _=>some false
 | .str _,.non=>some false
 | .int i,.int j=>some (decide (i=j))
 | .bl i,.bl j=>some (decide (i=j))
 | .str i,.str j=>some (decide (i=j))
 | .int _,.str _=>some false
 | .str _,.int _=>some false
 | .bl _,.str _=>some false
 | .str _,.bl _=>some false
 |_,_=>none
theorem Zqq{F H:Hp}{d1 d2:D}{x y:V}{b:Bool}(e:eqS d1 d2=some b)(r1:RepN K F H d1 x)(r2:RepN K F H d2 y):scal x y=true∧b=decide (x=y):=by
 unfold eqS at e
 split at e<;> cases e
 ·rw[r1.non,r2.non];exact⟨rfl,by simp⟩
 ·rw[r1.non,r2.int];exact⟨rfl,by simp⟩
 ·rw[r1.int,r2.non];exact⟨rfl,by simp⟩
 ·rw[r1.non,r2.bl];exact⟨rfl,by simp⟩
 ·rw[r1.bl,r2.non];exact⟨rfl,by simp⟩
 ·rw[r1.non,r2.str];exact⟨rfl,by simp⟩
 ·rw[r1.str,r2.non];exact⟨rfl,by simp⟩
 ·rw[r1.int,r2.int];exact⟨rfl,by simp⟩
 ·rw[r1.bl,r2.bl];exact⟨rfl,by simp⟩
 ·rw[r1.str,r2.str];exact⟨rfl,by simp⟩
 ·rw[r1.int,r2.str];exact⟨rfl,by simp⟩
 ·rw[r1.str,r2.int];exact⟨rfl,by simp⟩
 ·rw[r1.bl,r2.str];exact⟨rfl,by simp⟩
 ·rw[r1.str,r2.bl];exact⟨rfl,by simp⟩
@[simp] noncomputable def eqD(d1 d2:D):Option SV:=(eqS d1 d2).bind fun b=>some (.fz (.bl b))
@[simp] noncomputable def neD(d1 d2:D):Option SV:=(eqS d1 d2).bind fun b=>some (.fz (.bl (!b)))
theorem p_eq:Zbg Z rEq eqD:=by
 intro F H σ δ own x y d1 d2 sv Q s r1 r2 e k
 obtain⟨b,e1,e2⟩:=Option.bind_eq_some_iff.mp e
 cases e2
 obtain⟨h1,h2⟩:=Zqq e1 r1 r2
 subst h2
 exact⟨h1,k.fz s (.bl _)⟩
theorem p_ne:Zbg Z rNe neD:=by
 intro F H σ δ own x y d1 d2 sv Q s r1 r2 e k
 obtain⟨b,e1,e2⟩:=Option.bind_eq_some_iff.mp e
 cases e2
 obtain⟨h1,h2⟩:=Zqq e1 r1 r2
 subst h2
 exact⟨h1,k.fz s (.bl _)⟩
@[simp] noncomputable def D.isNon:D→Bool
 | .non=>true
 |_=>false
@[simp] noncomputable def isND(d1 d2:D):Option SV:=if d2.isNon=true then some (.fz (.bl d1.isNon))else none
@[simp] noncomputable def Z3s(d1 d2:D):Option SV:=if d2.isNon=true then some (.fz (.bl (!d1.isNon)))else none
theorem Reps.atI{F:Hp}{xs:List D}{vs:List V}{i:Int}{d:D}(r:Reps K F xs vs)(e:L2.atI xs i=some d):∃v,L2.atI vs i=some v∧Rep K F d v:=by
 unfold L2.atI at e⊢
 obtain⟨j,e1,e2⟩:=Option.bind_eq_some_iff.mp e
 obtain⟨v,h1,h2⟩:=r.get e2
 exact⟨v,Option.bind_eq_some_iff.mpr ⟨j,by rw[←r.length];exact e1,h1⟩,h2⟩
@[simp] noncomputable def ixD:D→D→Option SV
 | .lst xs,.int i=>(L2.atI xs i).bind fun d=>some (.fz d)
 | .tup xs,.int i=>(L2.atI xs i).bind fun d=>some (.fz d)
 | .str z,.int i=>if z.length≤PySem.sizeLine then(L2.atI z.cps.toList i).bind fun c=>some (.fz (.str ⟨#[c]⟩))else none
 |_,_=>none
theorem p_ix:Zbg Z (rIx K) ixD:=by
 intro F H σ δ own x y d1 d2 sv Q s r1 r2 e k
 unfold ixD at e
 split at e
 ·obtain⟨d,e1,e2⟩:=Option.bind_eq_some_iff.mp e
  cases e2
  obtain⟨a,vs,ex,ha,ra⟩:=r1.lst s.le
  obtain⟨v,h1,h2⟩:=ra.atI e1
  exact .inl ⟨a,vs,_,v,ex,r2.int,ha,h1,k.fz s h2⟩
 ·obtain⟨d,e1,e2⟩:=Option.bind_eq_some_iff.mp e
  cases e2
  obtain⟨a,vs,ex,ha,ra⟩:=r1.tup s.le
  obtain⟨v,h1,h2⟩:=ra.atI e1
  exact .inr (.inl ⟨a,vs,_,v,ex,r2.int,ha,h1,k.fz s h2⟩)
 ·split at e
  ·rename_i hz
   obtain⟨c,e1,e2⟩:=Option.bind_eq_some_iff.mp e
   cases e2
   exact .inr (.inr ⟨_,_,c,r1.str,r2.int,hz,e1,k.fz s (.str _)⟩)
  ·cases e
 ·cases e
noncomputable abbrev FO:=DSt→Option (Option Int×DSt)
noncomputable def Zhw(Z:Ent K)(f:FO):TO:=fun σ H Q=>∃F δ own o δ',SR Z F H σ δ own∧f δ=some (o,δ')∧∀H' F' own',Same H H'→Same F F'→SR Z F' H' σ δ' own'→Q o H'
@[simp] noncomputable def Zjw:FO:=fun δ=>some (none,δ)
@[simp] noncomputable def Zfy(fe:FE):FO:=fun δ=>(fe δ).bind fun p=>match p.1 with
 | .tmp (.fz (.int i))=>some (some i,p.2)
 |_=>none
section
variable{H:Hp}{σ:L2.St}{Q:VK}{R:Option Int→Hp→Prop}
theorem Zpf(h:Zhw Z Zjw σ H R):Zl5 σ H R:=by
 obtain⟨F,δ,own,o,δ',s,e,k⟩:=h
 cases e
 exact k H F own (Same.refl H) (Same.refl F) s
theorem Zvy{fe:FE}(h:Zhw Z (Zfy fe) σ H R):Zva (Zc Z fe) σ H R:=by
 obtain⟨F,δ,own,b,δ',s,e,k⟩:=h
 obtain⟨⟨rv,δ1⟩,e1,e2⟩:=Option.bind_eq_some_iff.mp e
 refine⟨F,δ,own,rv,δ1,s,e1,fun v H1 F1 own1 sH sF s1 r1=>?_⟩
 dsimp only at e2
 split at e2
 ·cases e2
  obtain⟨ns,t⟩:=r1
  cases Zb1 t.sh
  exact⟨_,rfl,k H1 F1 own1 sH sF s1⟩
 ·cases e2
@[simp] noncomputable def slF(g:D→Option Int→Option Int→Option SV)(fe:FE)(fl fh:FO):FE:=fun δ=>(fe δ).bind fun p=>(fl p.2).bind fun l=>(fh l.2).bind fun h=>(rdv p.1 h.2).bind fun d=>(g d l.1 h.1).bind fun sv=>some (.tmp sv,h.2)
noncomputable def Zvz(Z:Ent K)(r:V→Option Int→Option Int→Hp→VK→Prop)(g:D→Option Int→Option Int→Option SV):Prop:=
 ∀(F H:Hp) (σ:L2.St) (δ:DSt) (own:Nat→Zp) (x:V) (d:D) (lo hi:Option Int) (sv:SV) (Q:VK),SR Z F H σ δ own→RepN K F H d x→g d lo hi=some sv→Fin Z F H σ δ own sv Q→r x lo hi H Q
theorem l_sl{r:V→Option Int→Option Int→Hp→VK→Prop}{g:D→Option Int→Option Int→Option SV}{fe:FE}{fl fh:FO}(hg:Zvz Z r g)(h:Zc Z (slF g fe fl fh) σ H Q):tSl r (Zc Z fe) (Zhw Z fl) (Zhw Z fh) σ H Q:=by
 obtain⟨F,δ,own,rv,δ',s,e,k⟩:=h
 obtain⟨⟨rv1,δ1⟩,e1,e⟩:=Option.bind_eq_some_iff.mp e
 obtain⟨⟨lo,δ2⟩,e2,e⟩:=Option.bind_eq_some_iff.mp e
 obtain⟨⟨hi,δ3⟩,e3,e⟩:=Option.bind_eq_some_iff.mp e
 obtain⟨d,e4,e⟩:=Option.bind_eq_some_iff.mp e
 obtain⟨sv,e5,e⟩:=Option.bind_eq_some_iff.mp e
 cases e
 refine⟨F,δ,own,rv1,δ1,s,e1,fun v H1 F1 own1 sH1 sF1 s1 r1=>?_⟩
 obtain⟨F1',sF1',s1',r1'⟩:=s1.settleR r1
 refine⟨F1',δ1,own1,lo,δ2,s1',e2,fun H2 F2 own2 sH2 sF2 s2=>⟨F2,δ2,own2,hi,δ3,s2,e3,fun H3 F3 own3 sH3 sF3 s3=>?_⟩⟩
 exact hg F3 H3 σ δ3 own3 v d lo hi sv Q s3 (s3.rd (r1'.mono (sF2.trans sF3)) e4) e5 fun q H4 F4 ns sH4 sF4 s4 t4=>
  k q H4 F4 own3 (sH1.trans (sH2.trans (sH3.trans sH4))) (sF1.trans (sF1'.trans (sF2.trans (sF3.trans sF4)))) s4 ⟨ns,t4⟩
end
noncomputable def cutD(xs:List D)(lo hi:Option Int):List D:=(xs.drop (HT.sIx xs.length 0 lo)).take (HT.sIx xs.length xs.length hi- HT.sIx xs.length 0 lo)
theorem Reps.cut{F:Hp}{xs:List D}{vs:List V}(r:Reps K F xs vs)(lo hi:Option Int):Reps K F (cutD xs lo hi) (cutV vs lo hi):=by
 unfold cutD cutV
 rw[r.length]
 exact(r.drop _).take _
noncomputable def rSlS:V→Option Int→Option Int→Hp→VK→Prop:=fun x lo hi H Q=>∃z,x= .str z∧z.length≤PySem.sizeLine∧Q (.str (Txt.slice z lo hi)) H
theorem Zv0{X:Cx}:SlR X rSlS:=by
 intro pins s σ H x v vl vu lo hi sl Q I rx hs pl pu h
 obtain⟨z,rfl,hz,q⟩:=h
 obtain⟨t,rfl⟩:=rx
 refine⟨"str",_,F.slot_str_getitem.lookup,typeIs_str _ _ _,?_⟩
 have fin:∀(t':Tok) (k:Nat),EP X pins σ Q (.str (Txt.slice z lo hi) t') {s with toks:=k}:=fun t' k=>⟨.str (Txt.slice z lo hi),H,I.tok _,⟨_,rfl⟩,q⟩
 cases pl with
 |none=>cases pu with
  |none=>exact wpAny_getItem_str_slice (l:=none) (u:=none) (st:=none) hs rfl (post_val_or_str ⟨Nat.le_trans (Txt.slice_le z _ _) hz,fin⟩)
  |int j tj=>exact wpAny_getItem_str_slice (l:=none) (u:=some (j,tj)) (st:=none) hs rfl (post_val_or_str ⟨Nat.le_trans (Txt.slice_le z _ _) hz,fin⟩)
 |int i ti=>cases pu with
  |none=>exact wpAny_getItem_str_slice (l:=some (i,ti)) (u:=none) (st:=none) hs rfl (post_val_or_str ⟨Nat.le_trans (Txt.slice_le z _ _) hz,fin⟩)
  |int j tj=>exact wpAny_getItem_str_slice (l:=some (i,ti)) (u:=some (j,tj)) (st:=none) hs rfl (post_val_or_str ⟨Nat.le_trans (Txt.slice_le z _ _) hz,fin⟩)
@[simp] noncomputable def slD:D→Option Int→Option Int→Option SV
 | .lst xs,lo,hi=>some (.ol (cutD xs lo hi))
 | .str z,lo,hi=>if z.length≤PySem.sizeLine then some (.fz (.str (Txt.slice z lo hi)))else none
 |_,_,_=>none
theorem p_sl:Zvz Z (fun x lo hi H Q=>rSlL K x lo hi H Q∨rSlS x lo hi H Q) slD:=by
 intro F H σ δ own x d lo hi sv Q s r1 e k
 unfold slD at e
 split at e
 ·cases e
  obtain⟨a,vs,ex,ha,ra⟩:=r1.lst s.le
  exact .inl ⟨a,vs,ex,ha,fun p hp=>k.lst s (ra.cut _ _) hp⟩
 ·split at e
  ·rename_i hz
   cases e
   exact .inr ⟨_,r1.str,hz,k.fz s (.str _)⟩
  ·cases e
 ·cases e
end DL
namespace L2
open PySem PySem.Spec PyProof.Rows
section
variable{X:Cx}{tg:Expr}
noncomputable def Ite(K:PySem.W.Frag)(a:Addr):It:=
 ⟨fun i H=>∃xs x,SqL K H a xs∧xs[i]? =some x,fun i H x H'=>∃p v,x= .ref p∧H p=none∧H'=upd H p (.tup [.int (i:Nat),v])∧∀xs,SqL K H a xs→xs[i]? =some v,fun i H=>∃xs,SqL K H a xs∧xs.length≤i⟩
noncomputable def Z3t(K:PySem.W.Frag)(ta:TA):TI:=fun σ H R=>ta σ H fun vs H1=>∃a xs,vs=[.ref a]∧SqL K H1 a xs∧R (Ite K a) H1
theorem Zi1:∀{xs:List Str} {us:List Value},Vals (xs.map V.str) us→∃l:List (Str×Tok),us=strValues l∧l.map (·.1)=xs
 | [],_,r=>by rw[List.map_nil]at r;cases r;exact⟨[],rfl,rfl⟩
 |x::xs,_,r=>by
  rw[List.map_cons]at r
  cases r with
  |cons h t=>
   obtain⟨tk,rfl⟩:=h
   obtain⟨l,e1,e2⟩:=Zi1 t
   exact⟨(x,tk)::l,by rw[e1];rfl,by rw[List.map_cons,e2]⟩
noncomputable def Zz1(K:PySem.W.Frag):V→List V→Hp→VK→Prop:=fun x xs H Q=>∃sep p ys,x= .str sep∧xs=[.ref p]∧SqL K H p (ys.map V.str)∧JoinOk sep ys=true∧Q (.str (Txt.join sep ys)) H
theorem Zsn:MtR X "str.join" (Zz1 X.K):=by
 intro pins s σ H x xs v us Q I rx rs h
 obtain⟨sep,p,ys,rfl,rfl,hq,hok,q⟩:=h
 obtain⟨t,rfl⟩:=rx
 obtain⟨u,rfl,ru⟩:=Zfw rs
 cases ru
 obtain⟨its,rv,pl,hz⟩:=I.list hq
 obtain⟨l,e1,e2⟩:=Zi1 rv
 subst e1
 exact SC.join pl.isList e2 hok fun t' k=>⟨.str (Txt.join sep ys),H,I.tok _,⟨_,rfl⟩,q⟩
inductive TyX(K:PySem.W.Frag)(H:Hp):V→String→Prop where
 |non:TyX K H .non "NoneType"
 |bl (x:Bool):TyX K H (.bl x) "bool"
 |int (i:Int):TyX K H (.int i) "int"
 |str (x:Str):TyX K H (.str x) "str"
 |lst {a:Addr} {xs:List V} (e:SqL K H a xs):TyX K H (.ref a) "list"
 |tup {a:Addr} {xs:List V} (e:SqT K H a xs):TyX K H (.ref a) "tuple"
 |dK {a:Addr} {kvs:List (Key×V)} {ep:Nat} (e:H a=some (.dK kvs ep)):TyX K H (.ref a) "dict"
 |dT {a:Addr} {kvs:List (List Key×V)} {ep:Nat} {bs:List Addr} (e:H a=some (.dT kvs ep bs)):TyX K H (.ref a) "dict"
theorem Zpg{pins:List (Addr×Obj)}{σ:L2.St}{H:Hp}{s:Shared}{A:Around}{E:Value→Shared→Prop}{Q:Value→Shared→Prop}{c:Value}{b:Bool}{x:V}{u:Value}{T:String}(I:Inv X pins σ H s)(rx:RelV x u)(ty:TyX X.K H x T)(e:PySem.W.kitOne X.K (.type T) c=some b)(h:∀tk,Q (.bool b) {s with toks:=tk}):
  wpAny (model X.prog X.w) A (call (.builtin "isinstance") [u,c]) Q E s:=by
 cases ty with
 |non=>cases(show u=Value.none from rx);exact PySem.W.kia_one PySem.W.kitx_none I.kIn True.intro e (fun z=>nomatch z) h
 |bl y=>cases(show u=Value.bool y from rx);exact PySem.W.kia_one PySem.W.kitx_bool I.kIn True.intro e (fun z=>nomatch z) h
 |int i=>obtain⟨t,q⟩:=(show∃t,u=Value.int i t from rx);cases q;exact PySem.W.kia_one PySem.W.kitx_int I.kIn True.intro e (fun z=>nomatch z) h
 |str y=>obtain⟨t,q⟩:=(show∃t,u=Value.str y t from rx);cases q;exact PySem.W.kia_one PySem.W.kitx_str I.kIn True.intro e (fun z=>nomatch z) h
 | @lst a xs ea=>
  cases(show u=Value.ref a from rx)
  obtain⟨its,_,pl,_⟩:=I.list ea
  obtain⟨o,h1,h2,_⟩:=pl.isList
  exact PySem.W.kia_one PySem.W.kitx_list I.kIn ⟨o,h1,h2⟩ e (fun z=>nomatch z) h
 | @tup a xs ea=>
  cases(show u=Value.ref a from rx)
  obtain⟨its,_,pl,_⟩:=I.tuple ea
  obtain⟨o,h1,h2,_⟩:=pl
  exact PySem.W.kia_one PySem.W.kitx_tuple I.kIn ⟨o,h1,h2⟩ e (fun z=>nomatch z) h
 | @dK a kvs ep ea=>
  cases(show u=Value.ref a from rx)
  obtain⟨_,_,vs,_,p⟩:=(show Zcw X.prog X.w H s.heap a (.dK kvs ep)from I.hok a _ ea)
  obtain⟨o,es,h1,h2,_⟩:=p
  exact PySem.W.kia_one PySem.W.kitx_dict I.kIn ⟨o,h1,h2.1⟩ e (fun z=>nomatch z) h
 | @dT a kvs ep bs ea=>
  cases(show u=Value.ref a from rx)
  obtain⟨_,_,xs,_,o,es,h1,h2,_⟩:=(show Zcw X.prog X.w H s.heap a (.dT kvs ep bs)from I.hok a _ ea)
  exact PySem.W.kia_one PySem.W.kitx_dict I.kIn ⟨o,h1,h2.1⟩ e (fun z=>nomatch z) h
noncomputable def rIsI(K:PySem.W.Frag)(c:String):List V→Hp→VK→Prop:=fun xs H Q=>∃x t b,xs=[x,.ty c]∧TyX K H x t∧PySem.W.kitOne K (.type t) (.type c)=some b∧Q (.bl b) H
theorem Zph{c:String}:Zcx X (.builtin "isinstance") (rIsI X.K c):=by
 intro pins s σ H xs us Q I r h
 obtain⟨x,t,b,rfl,ty,e,q⟩:=h
 obtain⟨u,w',rfl,r1,r2⟩:=Zox r
 cases r2
 exact Zpg I r1 ty e fun tk=>⟨.bl b,H,I.tok _,rfl,q⟩
end
end L2
namespace DL
open PySem PySem.Spec PyProof.Rows L2
variable{K:PySem.W.Frag}
noncomputable def Zpi(xs:List D):List D:=xs.zipIdx.map fun p=>.tup [.int (p.2:Nat),p.1]
section
variable{Z:Ent K}{H:Hp}{σ:L2.St}{Q:VK}
@[simp] noncomputable def Z3u(fd:FD):FD:=fun δ=>(fd δ).bind fun p=>match p.1 with
 | [.lst xs]=>some (Zpi xs,p.2)
 |_=>none
@[simp] noncomputable def D.ty:D→String
 | .str _=>"str"
 | .int _=>"int"
 | .lst _=>"list"
 | .dK _ _=>"dict"
 | .dT _ _=>"dict"
 |_=>"?"
@[simp] noncomputable def tyOk(T:String)(d:D):Bool:=T==d.ty&&(T=="str" ||T=="list" ||T=="dict")
theorem Zz2{F H:Hp}{d:D}{x:V}{T:String}(le:Same F H)(r:RepN K F H d x)(h:tyOk T d=true):tyV K T x H:=by
 unfold tyOk at h
 simp only[Bool.and_eq_true,beq_iff_eq]at h
 obtain⟨h1,h2⟩:=h
 subst h1
 cases d with
 |str y=>rw[r.str];rfl
 |lst xs=>
  obtain⟨a,vs,e,ha,_⟩:=r.lst le
  subst e
  exact .inl ⟨rfl,vs,ha⟩
 |dK ks vs=>
  obtain⟨a,kvs,e,⟨ep,ha⟩,_⟩:=r.dK le
  subst e
  exact .inr (.inr (.inl ⟨rfl,.inl ⟨kvs,ep,ha⟩⟩))
 |dT ks vs=>
  obtain⟨a,kvs,e,⟨ep,bs,ha⟩,_⟩:=r.dT le
  subst e
  exact .inr (.inr (.inl ⟨rfl,.inr ⟨kvs,ep,bs,ha⟩⟩))
 |non=>exact absurd (show("?"=="str" || "?"=="list" || "?"=="dict")=true from h2) (by decide)
 |bl b=>exact absurd (show("?"=="str" || "?"=="list" || "?"=="dict")=true from h2) (by decide)
 |int i=>exact absurd (show("int"=="str" || "int"=="list" || "int"=="dict")=true from h2) (by decide)
 |tup xs=>exact absurd (show("?"=="str" || "?"=="list" || "?"=="dict")=true from h2) (by decide)
 |exc C ks vs=>exact absurd (show("?"=="str" || "?"=="list" || "?"=="dict")=true from h2) (by decide)
@[simp] noncomputable def bmF(T:String)(g:List D→Option SV)(fo:FE)(fa:FA):FE:=fun δ=>(fo δ).bind fun p=>(rdv p.1 p.2).bind fun d0=>if tyOk T d0=true then(fa p.2).bind fun q=>(Zdr (p.1::q.1) q.2).bind fun ds=>(g ds).bind fun sv=>some (.tmp sv,q.2)else none
noncomputable def Zmr(Z:Ent K)(r:V→List V→Hp→VK→Prop)(g:List D→Option SV):Prop:=Zfe Z (fun vs H Q=>∃x xs,vs=x::xs∧r x xs H Q) g
theorem l_bm{T:String}{r:V→List V→Hp→VK→Prop}{g:List D→Option SV}{fo:FE}{fa:FA}(hg:Zmr Z r g)(h:Zc Z (bmF T g fo fa) σ H Q):tBM K T r (Zc Z fo) (Zd5 Z fa) σ H Q:=by
 obtain⟨F,δ,own,rv,δ',s,e,k⟩:=h
 obtain⟨⟨rv1,δ1⟩,e1,e⟩:=Option.bind_eq_some_iff.mp e
 obtain⟨d0,e2,e⟩:=Option.bind_eq_some_iff.mp e
 dsimp only at e
 split at e
 ·rename_i ht
  obtain⟨⟨rvs,δ2⟩,e3,e⟩:=Option.bind_eq_some_iff.mp e
  obtain⟨ds,e4,e⟩:=Option.bind_eq_some_iff.mp e
  obtain⟨sv,e5,e⟩:=Option.bind_eq_some_iff.mp e
  cases e
  refine⟨F,δ,own,rv1,δ1,s,e1,fun v H1 F1 own1 sH1 sF1 s1 r1=>?_⟩
  obtain⟨F1',sF1',s1',r1'⟩:=s1.settleR r1
  refine⟨Zz2 s1'.le (s1'.rd r1' e2) ht,F1',δ1,own1,rvs,δ2,s1',e3,fun vs H2 F2 own2 sH2 sF2 s2 r2=>?_⟩
  obtain⟨x,xs,ex,q⟩:=hg F2 H2 σ δ2 own2 (v::vs) ds sv Q s2 (s2.rdAll (.cons (r1'.mono sF2) r2) e4) e5 fun q H4 F4 ns sH4 sF4 s4 t4=>
   k q H4 F4 own2 (sH1.trans (sH2.trans sH4)) (sF1.trans (sF1'.trans (sF2.trans sF4))) s4 ⟨ns,t4⟩
  injection ex with ex1 ex2
  subst ex1 ex2
  exact q
 ·cases e
end
@[simp] noncomputable def strs?:List D→Option (List Str)
 | []=>some []
 | .str x::r=>(strs? r).bind fun t=>some (x::t)
 |_=>none
theorem Zi2{F:Hp}:∀{ds:List D} {xs:List Str} {vs:List V},strs? ds=some xs→Reps K F ds vs→vs=xs.map V.str
 | [],_,_,e,r=>by cases e;cases r;rfl
 |d::r,xs,vs,e,q=>by
  cases q with
  |cons h t=>
   unfold strs? at e
   split at e
   ·rename_i e0;cases e0
   ·rename_i x r' e0
    cases e0
    obtain⟨ys,e1,e2⟩:=Option.bind_eq_some_iff.mp e
    cases e2
    cases h
    rw[Zi2 e1 t];rfl
   ·cases e
@[simp] noncomputable def Z3v:List D→Option SV
 | [.str sep,.lst xs]=>(strs? xs).bind fun ys=>if JoinOk sep ys=true then some (.fz (.str (Txt.join sep ys)))else none
 |_=>none
variable{Z:Ent K}
@[simp] noncomputable def D.pyTy:D→String
 | .non=>"NoneType"
 | .bl _=>"bool"
 | .int _=>"int"
 | .str _=>"str"
 | .tup _=>"tuple"
 | .lst _=>"list"
 | .dK _ _=>"dict"
 | .dT _ _=>"dict"
 | .exc _ _ _=>"?"
@[simp] noncomputable def D.isExc:D→Bool
 | .exc _ _ _=>true
 |_=>false
theorem Zso{F H:Hp}{d:D}{x:V}(le:Same F H)(r:RepN K F H d x)(hx:d.isExc=false):TyX K H x d.pyTy:=by
 cases d with
 |exc C ks vs=>cases hx
 |non=>rw[r.non];exact .non
 |bl b=>rw[r.bl];exact .bl b
 |int i=>rw[r.int];exact .int i
 |str y=>rw[r.str];exact .str y
 |tup xs=>obtain⟨a,vs,e,ha,_⟩:=r.tup le;subst e;exact .tup ha
 |lst xs=>
  obtain⟨a,vs,e,ha,_⟩:=r.lst le
  subst e
  exact .lst ha
 |dK ks vs=>obtain⟨a,kvs,e,⟨ep,ha⟩,_⟩:=r.dK le;subst e;exact .dK ha
 |dT ks vs=>obtain⟨a,kvs,e,⟨ep,bs,ha⟩,_⟩:=r.dT le;subst e;exact .dT ha
@[simp] noncomputable def isiD(c:String)(d:D):Option SV:=if d.isExc=true then none else some (.fz (.bl (d.pyTy==c|| (c=="int" &&d.pyTy=="bool"))))
theorem Zz3{c:String}(hk:∀d:D,d.isExc=false→PySem.W.kitOne K (.type d.pyTy) (.type c)=some (d.pyTy==c|| (c=="int" &&d.pyTy=="bool"))):Zo9 Z (fun x H Q=>rIsI K c [x,.ty c] H Q) (isiD c):=by
 intro F H σ δ own x d sv Q s r e k
 unfold isiD at e
 split at e
 ·cases e
 ·rename_i hx
  cases e
  have hx':d.isExc=false:=by cases z:d.isExc with
   |true=>exact absurd z hx
   |false=>rfl
  exact⟨x,_,_,rfl,Zso s.le r hx',hk d hx',k.fz s (.bl _)⟩
@[simp] noncomputable def lenD:List D→Option SV
 | [.lst xs]=>some (.fz (.int (xs.length:Nat)))
 | [.tup xs]=>some (.fz (.int (xs.length:Nat)))
 | [.str x]=>if x.length≤PySem.sizeLine then some (.fz (.int (x.length:Nat)))else none
 |_=>none
theorem Zz4:Zfe Z (fun xs H Q=>(∃p ys,xs=[V.ref p]∧(SqL K H p ys∨SqT K H p ys)∧Q (.int ys.length) H)∨(∃z,xs=[V.str z]∧z.length≤PySem.sizeLine∧Q (.int z.length) H)) lenD:=by
 intro F H σ δ own vs ds sv Q s r e k
 unfold lenD at e
 split at e
 ·cases e
  cases r with
  |cons h t=>
   cases t
   obtain⟨a,us,ex,ha,ra⟩:=h.lst s.le
   subst ex
   exact .inl ⟨a,us,rfl,.inl ha,by rw[←ra.length];exact k.fz s (.int _)⟩
 ·cases e
  cases r with
  |cons h t=>
   cases t
   obtain⟨a,us,ex,ha,ra⟩:=h.tup s.le
   subst ex
   exact .inl ⟨a,us,rfl,.inr ha,by rw[←ra.length];exact k.fz s (.int _)⟩
 ·split at e
  ·rename_i hz
   cases e
   cases r with
   |cons h t=>
    cases t
    exact .inr ⟨_,by rw[h.str],hz,k.fz s (.int _)⟩
  ·cases e
 ·cases e
@[simp] noncomputable def Z3w:List D→Option SV
 | [.lst xs]=>some (.ol xs)
 | [.tup xs]=>some (.ol xs)
 |_=>none
@[simp] noncomputable def Zf9:List D→Option SV
 | [.lst xs]=>some (.fz (.tup xs))
 |_=>none
theorem Zsp:Zfe Z (fun xs H Q=>∃p ys,xs=[V.ref p]∧((SqL K H p ys∧∀l,H l=none→Q (.ref l) (upd H l (.tup ys)))∨(SqT K H p ys∧Q (.ref p) H))) Zf9:=by
 intro F H σ δ own vs ds sv Q s r e k
 unfold Zf9 at e
 split at e
 ·cases e
  cases r with
  |cons h t=>
   cases t
   obtain⟨a,us,ex,ha,ra⟩:=h.lst s.le
   subst ex
   exact⟨a,us,rfl,.inl ⟨ha,fun l hl=>k.tup s ra hl⟩⟩
 ·cases e
@[simp] noncomputable def intD:List D→Option SV
 | [.int i]=>some (.fz (.int i))
 | [.bl b]=>some (.fz (.int (if b then 1 else 0)))
 |_=>none
section
variable{X:Cx}{Z:Ent X.K}{a b c:Expr}{fa fb fc:FE}{pos:Pos}
theorem Zg(i:Nat){x:Str}{pos:Pos}(hN:X.N[i]? =some x:=by rfl)(hv:Vis X.env.scope x:=by first|exact Or.inl rfl|exact Or.inr (Or.inl rfl)|exact Or.inr (Or.inr rfl))(hd:(x==("__debug__":Str))=false:=by decide)
  (hcd:(x==("__classdict__":Str))=false:=by decide):PE X (.Name x pos) (Zc Z (Zd i)):=(Zg6 hN hv hd hcd).imp fun _ _ _ h=>Zzl h
theorem Zs{i:Int}{j:Nat}:PE X (.Constant (.int i) j pos) (Zc Z (Za (.int i))):=Zjh.imp fun _ _ _ h=>Zei (fun _=>.int _) h
theorem e_bl{i:Bool}{j:Nat}:PE X (.Constant (.bool i) j pos) (Zc Z (Za (.bl i))):=Zy4.imp fun _ _ _ h=>Zei (fun _=>.bl _) h
theorem Zz5{j:Nat}:PE X (.Constant .none j pos) (Zc Z (Za .non)):=Zul.imp fun _ _ _ h=>Zei (fun _=>.non) h
theorem Zai{i:Str}{j:Nat}:PE X (.Constant (.str i) j pos) (Zc Z (Za (.str i))):=Zls.imp fun _ _ _ h=>Zei (fun _=>.str _) h
theorem Zgm{x:Str}{y:Str}{t:Tok}(hm:X.mg x=some (.str y t))(hg:Gl X x:=by rfl)(hd:(x==("__debug__":Str))=false:=by decide):PE X (.Name x pos) (Zc Z (Za (.str y))):=
 (Zgf (v:=.str y) hg hm ⟨t,rfl⟩ hd).imp fun _ _ _ h=>Zei (fun _=>.str _) h
theorem Zgn{x:Str}{y:Int}{t:Tok}(hm:X.mg x=some (.int y t))(hg:Gl X x:=by rfl)(hd:(x==("__debug__":Str))=false:=by decide):PE X (.Name x pos) (Zc Z (Za (.int y))):=
 (Zgf (v:=.int y) hg hm ⟨t,rfl⟩ hd).imp fun _ _ _ h=>Zei (fun _=>.int _) h
theorem Zk6{op:Operator}{r:R2}{g:D→D→Option SV}(ho:OpR X (binaryOp op) r)(hp:Zbg Z r g)(ha:PE X a (Zc Z fa))(hb:PE X b (Zc Z fb)):PE X (.BinOp a op b pos) (Zc Z (binF g fa fb)):=(Zy7 ho ha hb).imp fun _ _ _ h=>Zo8 hp h
theorem Zaw(ha:PE X a (Zc Z fa))(hb:PE X b (Zc Z fb)):PE X (.BinOp a .Add b pos) (Zc Z (binF addD fa fb)):=Zk6 Zsm Zz0 ha hb
theorem Zz6(ha:PE X a (Zc Z fa))(hb:PE X b (Zc Z fb)):PE X (.BinOp a .Sub b pos) (Zc Z (binF subD fa fb)):=Zk6 Zu2 Zzx ha hb
theorem Zhx(ha:PE X a (Zc Z fa))(hb:PE X b (Zc Z fb)):PE X (.BinOp a .FloorDiv b pos) (Zc Z (binF Zi0 fa fb)):=Zk6 Zrx Zvv ha hb
theorem Zcl(ha:PE X a (Zc Z fa))(hb:PE X b (Zc Z fb)):PE X (.BinOp a .Mod b pos) (Zc Z (binF modD fa fb)):=Zk6 Zu4 Zzz ha hb
theorem Zv1{op:CmpOp}{r:R2}{g:D→D→Option SV}(ho:OpR X (compareOp op) r)(hp:Zbg Z r g)(ha:PE X a (Zc Z fa))(hb:PE X b (Zc Z fb))(hm:behindInMarks op b=false):PE X (.Compare a [op] [b] pos) (Zc Z (binF g fa fb)):=(Zrz ho ha hb hm).imp fun _ _ _ h=>Zo8 hp h
theorem Zk7{op:CmpOp}{r:R2}{g:D→D→Option SV}(ho:OpR X (compareOp op) r)(hp:Zbg Z r g)(ha:PE X a (Zc Z fa))(hb:PE X b (Zc Z fb))(hm:behindInMarks op b=false):PT X (.Compare a [op] [b] pos) (Zar Z (Zz (binF g fa fb))):=
 (Zr0 ho ha hb hm).imp fun σ H Q h=>by
  obtain⟨F,δ,own,rv,δ',s,e,k⟩:=Zjv h
  exact Zo8 hp ⟨F,δ,own,rv,δ',s,e,k⟩
theorem t_lt(ha:PE X a (Zc Z fa))(hb:PE X b (Zc Z fb)):PT X (.Compare a [.Lt] [b] pos) (Zar Z (Zz (binF ltD fa fb))):=Zk7 Zy9 p_lt ha hb (Zf6 _)
theorem t_le(ha:PE X a (Zc Z fa))(hb:PE X b (Zc Z fb)):PT X (.Compare a [.LtE] [b] pos) (Zar Z (Zz (binF leD fa fb))):=Zk7 Zry p_le ha hb (Zf6 _)
theorem t_gt(ha:PE X a (Zc Z fa))(hb:PE X b (Zc Z fb)):PT X (.Compare a [.Gt] [b] pos) (Zar Z (Zz (binF gtD fa fb))):=Zk7 Zza p_gt ha hb (Zf6 _)
theorem Zv2{f:FT}(ha:PT X a (Zar Z f)):PW X (.BoolOp .And [a] pos) (Zar Z f):=Zrt ha
theorem Zz7{f:FT}(ha:PT X a (Zar Z f)):PW X (.BoolOp .Or [a] pos) (Zar Z f):=Zun ha
theorem Zz8{f g:FT}{rest:List Expr}(ha:PT X a (Zar Z f))(hb:PW X (.BoolOp .And (b::rest) pos) (Zar Z g)):PW X (.BoolOp .And (a::b::rest) pos) (Zar Z (andF f g)):=(Zuo ha hb).imp fun _ _ _ h=>Zzo h
theorem w_or{f g:FT}{rest:List Expr}(ha:PT X a (Zar Z f))(hb:PW X (.BoolOp .Or (b::rest) pos) (Zar Z g)):PW X (.BoolOp .Or (a::b::rest) pos) (Zar Z (orF f g)):=(Zy5 ha hb).imp fun _ _ _ h=>l_or h
theorem Zk8{f:FT}(ha:PT X a (Zar Z f)):PT X (.UnaryOp .Not a pos) (Zar Z (notF f)):=(Zup ha).imp fun _ _ _ h=>Zzp h
theorem Zk9(h:PE X a (Zc Z fa))(he:∀whole,isTrue a X.env whole=(do let v←whole;standAt a.pos;holding [v] (truthy v)):=by intro _;rfl):PT X a (Zar Z (Zz fa)):=(Zum h he).imp fun _ _ _ h=>Zsf h
theorem Zpj{op:BoolOp}(h:PE X a (Zc Z fa)):PE X (.BoolOp op [a] pos) (Zc Z fa):=Zus h
theorem Zpk{rest:List Expr}(ha:PE X a (Zc Z fa))(hb:PE X (.BoolOp .And (b::rest) pos) (Zc Z fb)):PE X (.BoolOp .And (a::b::rest) pos) (Zc Z (andV fa fb)):=(Zut ha hb).imp fun _ _ _ h=>Zvj h
theorem Zz9(ha:PE X a (Zc Z fa)):PE X (.UnaryOp .Not a pos) (Zc Z (notV fa)):=(Zuu ha).imp fun _ _ _ h=>Zvk h
theorem Zbh:PA X [] (Zd5 Z Zj):=Zbb.imp fun _ _ _ h=>Zo7 h
theorem Zx{es:List Expr}{fr:FA}(ha:PE X a (Zc Z fa))(hr:PA X es (Zd5 Z fr))(hs:starEach (a::es) X.env=(false,eval a X.env)::starEach es X.env:=by rfl):PA X (a::es) (Zd5 Z (Zb fa fr)):=(Zac ha hr hs).imp fun _ _ _ h=>Zmm h
theorem Zcb:PA X [] (Zd6 Z Z6):=Zbb.imp fun _ _ _ h=>Zmo h
theorem Zax{es:List Expr}{fr:FD}(ha:PE X a (Zc Z fa))(hr:PA X es (Zd6 Z fr))(hs:starEach (a::es) X.env=(false,eval a X.env)::starEach es X.env:=by rfl):PA X (a::es) (Zd6 Z (Zt fa fr)):=(Zac ha hr hs).imp fun _ _ _ h=>Zk3 h
theorem Zhy{es:List Expr}{fd:FD}{k:Nat}(h:PA X es (Zd6 Z fd)):PE X (.Tuple es k pos) (Zc Z (tupF fd)):=(Zqi h).imp fun _ _ _ h=>Zzm h
theorem Zez{es:List Expr}{fd:FD}(h:PA X es (Zd6 Z fd)):PE X (.List es pos) (Zc Z (lstF fd)):=(Zjj h).imp fun _ _ _ h=>Zzn h
theorem e_ix(hu:X.A.units+1<cLine)(ha:PE X a (Zc Z fa))(hb:PE X b (Zc Z fb))(hs:Zl6 b:=by intro _ _;rfl):PE X (.Subscript a b pos) (Zc Z (binF ixD fa fb)):=(Zr5 Zvd ha hb hs).imp fun _ _ _ h=>Zo8 p_ix h
theorem Zqr:PO X none (Zhw Z Zjw):=fun pins s σ H Q I h=>Zr1 pins s σ H Q I (Zpf h)
theorem Zev(ha:PE X a (Zc Z fa)):PO X (some a) (Zhw Z (Zfy fa)):=fun pins s σ H Q I h=>Zr2 ha pins s σ H Q I (Zvy h)
theorem e_sl{lo hi:Option Expr}{fl fh:FO}{p2:Pos}(ha:PE X a (Zc Z fa))(hl:PO X lo (Zhw Z fl))(hh:PO X hi (Zhw Z fh)):PE X (.Subscript a (.Slice lo hi none p2) pos) (Zc Z (slF slD fa fl fh)):=
 (Zoz (Zr6.or Zv0) ha hl hh).imp fun _ _ _ h=>l_sl p_sl h
theorem Zb2{k n:Nat}{f:Addr}{fd:FuncData}{ps:List Str}{g:List D→Option SV}{x:Str}{p:Pos}{es:List Expr}{fr:FA}(F:FnOk X.prog X.w X.K X.mg X.base CX0 k f fd ps (spOf X.K n g))(hr:Room k X.A)(hm:X.mg x=some (.ref f))(hk:PySem.W.keepIn X.K (.ref f)=true)(hb:Zat X.K fd ps [])
  (ha:PA X (a::es) (Zd5 Z fr)) (hg:Gl X x:=by rfl) (hdb:(x==("__debug__":Str))=false:=by decide) (he:starEach (a::es) X.env=(false,eval a X.env)::starEach es X.env:=by rfl) (hpl:(backTo pos (starEach es X.env)).any (·.1)=false:=by rfl):
  PE X (.Call (.Name x p) (a::es) [] pos) (Zc Z (Zck n g fr)):=(Zl3 F hr hg hm hk hb .nil Zzf ha hdb he hpl).imp fun _ _ _ h=>Zqp h
theorem Zi3{id:String}{r:List V→Hp→VK→Prop}{g:List D→Option SV}{x:Str}{p:Pos}{es:List Expr}{fr:FA}(hc:Zcx X (.builtin id) r)(hp:Zfe Z r g)(hm:X.mg x=none)(hv:bootBuiltins x=some (.builtin id))(ha:PA X (a::es) (Zd5 Z fr))(hg:Gl X x:=by rfl)(hn:x≠"__name__":=by decide)(hdb:(x==("__debug__":Str))=false:=by decide)
  (he:starEach (a::es) X.env=(false,eval a X.env)::starEach es X.env:=by rfl) (hpl:(backTo pos (starEach es X.env)).any (·.1)=false:=by rfl):PE X (.Call (.Name x p) (a::es) [] pos) (Zc Z (Zao g fr)):=(Zdk hc hg hm hv ha hn hdb he hpl).imp fun _ _ _ h=>Zmn hp h
theorem Zi4{T:String}{r:List V→Hp→VK→Prop}{g:List D→Option SV}{x:Str}{p:Pos}{es:List Expr}{fr:FA}(hc:Zcx X (.type T) r)(hp:Zfe Z r g)(hm:X.mg x=none)(hv:bootBuiltins x=some (.type T))(ha:PA X (a::es) (Zd5 Z fr))(hg:Gl X x:=by rfl)(hn:x≠"__name__":=by decide)(hdb:(x==("__debug__":Str))=false:=by decide)
  (he:starEach (a::es) X.env=(false,eval a X.env)::starEach es X.env:=by rfl) (hpl:(backTo pos (starEach es X.env)).any (·.1)=false:=by rfl):PE X (.Call (.Name x p) (a::es) [] pos) (Zc Z (Zao g fr)):=(Zhg hc hg hm hv ha hn hdb he hpl).imp fun _ _ _ h=>Zmn hp h
theorem Zfz{p:Pos}(hm:X.mg "len"=none)(ha:PE X a (Zc Z fa))(hg:Gl X "len":=by rfl)(he:starEach [a] X.env=(false,eval a X.env)::starEach [] X.env:=by rfl)(hpl:(backTo pos (starEach [] X.env)).any (·.1)=false:=by rfl):PE X (.Call (.Name "len" p) [a] [] pos) (Zc Z (Zao lenD (Zb fa Zj))):=
 Zi3 (Zet.or Zhj) Zz4 hm PySem.boot_len (Zx ha Zbh he) hg (by decide) (by decide) he hpl
theorem Zms{p:Pos}(hm:X.mg "tuple"=none)(ha:PE X a (Zc Z fa))(hg:Gl X "tuple":=by rfl)(he:starEach [a] X.env=(false,eval a X.env)::starEach [] X.env:=by rfl)(hpl:(backTo pos (starEach [] X.env)).any (·.1)=false:=by rfl):PE X (.Call (.Name "tuple" p) [a] [] pos) (Zc Z (Zao Zf9 (Zb fa Zj))):=
 Zi4 Zd3 Zsp hm boot_tuple (Zx ha Zbh he) hg (by decide) (by decide) he hpl
theorem Zv3{x:Str}{c:String}{p p2:Pos}(hm:X.mg "isinstance"=none)(hmc:X.mg x=none)(hv:bootBuiltins x=some (.type c))(hk:∀d:D,d.isExc=false→PySem.W.kitOne X.K (.type d.pyTy) (.type c)=some (d.pyTy==c|| (c=="int" &&d.pyTy=="bool")))(ha:PE X a (Zc Z fa))(hg:Gl X "isinstance":=by rfl)(hgc:Gl X x:=by rfl)
  (hn:x≠"__name__":=by decide) (hdb:(x==("__debug__":Str))=false:=by decide)
  (he:starEach [a,.Name x p2] X.env=(false,eval a X.env)::starEach [.Name x p2] X.env:=by rfl) (he2:starEach [.Name x p2] X.env=(false,eval (.Name x p2) X.env)::starEach [] X.env:=by rfl) (hpl:(backTo pos (starEach [.Name x p2] X.env)).any (·.1)=false:=by rfl):
  PE X (.Call (.Name "isinstance" p) [a,.Name x p2] [] pos) (Zc Z (unF (isiD c) fa)):=
 (Zdk Zph hg hm boot_isinstance (Zac ha (Zac (Zlt (v:=.ty c) hgc hmc hv rfl hn hdb) Zbb he2) he) (by decide) (by decide) he hpl).imp fun σ H Q h=>by
  have h2:=l_un (Zz3 hk) h
  exact h2
theorem Zsq{op op':CmpOp}{r r':R2}{g g':D→D→Option SV}(ho:OpR X (compareOp op) r)(hp:Zbg Z r g)(ho':OpR X (compareOp op') r')(hp':Zbg Z r' g')(ha:PE X a (Zc Z fa))(hb:PE X b (Zc Z fb))(hc:PE X c (Zc Z fc))(hm:lastMarks [op,op'] [b,c]=false:=by with_unfolding_all rfl):
  PE X (.Compare a [op,op'] [b,c] pos) (Zc Z (Zmp g g' fa fb fc)):=(Zow ho ho' ha hb hc hm).imp fun _ _ _ h=>Zsh hp hp' h
theorem Zhz(i:Nat){x:Str}(hN:X.N.Nodup)(hi:X.N[i]? =some x:=by rfl)(hx:Loc X.env.scope x:=by first|exact Or.inl rfl|exact Or.inr rfl)(hf:X.fn x=true∨X.env.scope.names.lookup x=some .local:=by first|exact .inl rfl|exact .inr rfl):PG X (.Name x pos) (Zk4 Z (Zap i)):=(Zrw hN hi hx hf).imp fun _ _ _ _ h=>Zsi h
theorem Z0a{tg:Expr}{p:Pos}(hm:X.mg "range"=none)(ha:PE X a (Zc Z fa))(hg:Gl X "range":=by rfl)(hs:starEach [a] X.env=[(false,eval a X.env)]:=by rfl):PI X tg (.Call (.Name "range" p) [a] [] pos) (Zht Z (rngI (Zb fa Zj))):=(Zlw hg hm (Zx ha Zbh hs) hs).imp fun _ _ _ h=>Zvt h
theorem Zh0{N':List Str}{scope:Scope}{src:List BSrc}(kind:scope.kind= .function)(nocell:(scope.names.all fun y=>!(y.2== .cell))=true)(names:(scope.names.all fun y=>!(y.2== .local)|| (scope.names.lookup y.1==some .local))=true)
  (free:(scope.names.all fun y=>!(y.2== .free)|| (X.env.kindOf y.1==some .cell)|| (X.env.kindOf y.1==some .free))=true) (len:src.length=N'.length)
  (cap:((List.range src.length).all fun k=>match src[k]?,N'[k]? with
   |some (.cap j),some x=>(X.N[j]? ==some x)&&((X.env.kindOf x==some .cell)|| (X.env.kindOf x==some .free))&&(scope.names.lookup x==some .free)
   |some .acc,some x=>scope.names.lookup x==none
   |_,_=>true)=true):CompScope X N' scope src:=by
 have capk:∀(k:Nat) (q:BSrc) (x:Str),src[k]? =some q→N'[k]? =some x→(match some q,some x with
   |some (.cap j),some x=>(X.N[j]? ==some x)&&((X.env.kindOf x==some .cell)|| (X.env.kindOf x==some .free))&&(scope.names.lookup x==some .free)
   |some .acc,some x=>scope.names.lookup x==none
   |_,_=>true)=true:=fun k q x h1 h2=>by
  have hk:k<src.length:=(List.getElem?_eq_some_iff.mp h1).1
  have:=List.all_eq_true.mp cap k (List.mem_range.mpr hk)
  rw[h1,h2]at this
  exact this
 refine⟨kind,fun y hy e=>?_,fun y hy e=>?_,fun y hy e=>?_,len,fun k j x h1 h2=>?_,fun k x h1 h2=>?_⟩
 ·have:=List.all_eq_true.mp nocell y hy
  rw[e]at this;cases this
 ·have:=List.all_eq_true.mp names y hy
  rw[e]at this
  simpa using this
 ·have:=List.all_eq_true.mp free y hy
  rw[e]at this
  simpa using this
 ·have:=capk k (.cap j) x h1 h2
  simp only[Bool.and_eq_true,Bool.or_eq_true,beq_iff_eq]at this
  exact⟨this.1.1,this.1.2,this.2⟩
 ·have:=capk k .acc x h1 h2
  simpa using this
theorem Zv4{src:List BSrc}(k:Nat)(acc:src[k]? =some .acc)(uni:((List.range src.length).all fun i=>match src[i]? with
   |some .acc=>i==k
   |_=>true)=true):SrcOk src k:=⟨acc,fun i h=>by
  have hi:i<src.length:=(List.getElem?_eq_some_iff.mp h).1
  have:=List.all_eq_true.mp uni i (List.mem_range.mpr hi)
  rw[h]at this
  simpa using this⟩
theorem Zmt(K:PySem.W.Frag):∀d:D,d.isExc=false→PySem.W.kitOne K (.type d.pyTy) (.type "str")=some (d.pyTy=="str" || ("str"=="int" &&d.pyTy=="bool")):=by intro d h;cases d<;> first| (cases h;done)|with_unfolding_all rfl
theorem xg{tg:Expr}{g:FG}(h:∀Z:Ent X.K,PG X tg (Zk4 Z g)):PG X tg (xG X.K g):=fun pins s σ H v u Q I r ⟨Z,q⟩=>h Z pins s σ H v u Q I r q
theorem xe{e:Expr}{f:FE}(h:∀Z:Ent X.K,PE X e (Zc Z f)):PE X e (xE X.K f):=fun pins s σ H Q I ⟨Z,q⟩=>h Z pins s σ H Q I q
theorem xt0:PTs X [] (xT X.K Zhv):=fun pins s σ H Q I ⟨Z,q⟩=>by
 obtain⟨F,δ,own,b,δ',sr,e,k⟩:=q
 cases e
 exact Zsb pins s σ H Q I (k H F own (Same.refl H) (Same.refl F) sr)
theorem Zqs{N':List Str}{scope:Scope}{src:List BSrc}{k:Nat}{tg elt iter:Expr}{ifs:List Expr}{fi:FD}{g:FG}{tt:FT}{te:FE}(hc:X.calm=true)(S:CompScope X N' scope src)(So:SrcOk src k)(hk:k∉g.tch)(hi:PI X tg iter (Zht Z fi))
  (hg:∀(C:Addr) (s₀:Shared) (H₀:Hp) (ex:List Addr),PG (X.block N' scope C s₀ H₀ ex) tg (xG X.K g)) (ht:∀(C:Addr) (s₀:Shared) (H₀:Hp) (ex:List Addr),PTs (X.block N' scope C s₀ H₀ ex) ifs (xT X.K tt)) (he:∀(C:Addr) (s₀:Shared) (H₀:Hp) (ex:List Addr),PE (X.block N' scope C s₀ H₀ ex) elt (xE X.K te))
  (hs:∀x,foldedSetIterable iter X.env x=pure x:=by intro _;rfl):PE X (.ListComp elt [⟨tg,iter,ifs,0⟩] scope pos) (Zc Z (Zpc src k fi g tt te)):=(Zsc hc S hi hg ht he hs).imp fun _ _ _ h=>Zvu So hk h
theorem Zaf:PSs X [] (Zv Z Zba):=Zru.imp fun _ _ _ h=>Zvl h
theorem Zk{st:Stmt}{rest:List Stmt}{f g:FS}(h1:PS X st (Zv Z f))(h2:PSs X rest (Zv Z g)):PSs X (st::rest) (Zv Z (seqF f g)):=(Zos h1 h2).imp fun _ _ _ h=>Zzq h
theorem Zn{st:Stmt}{f:FS}(h:PS X st (Zv Z f)):PSs X [st] (Zv Z f):=Zrv h
noncomputable def Z2k:FS:=fun _=>none
theorem Zay(h:PE X a (Zc Z fa)):PS X (.Return (some a) pos) (Zv Z (retF fa)):=(Zqd h).imp fun _ _ _ h=>Zvo h
theorem s_if{t:FT}{f g:FS}{bt be:List Stmt}(hc:PT X c (Zar Z t))(ha:PSs X bt (Zv Z f))(hb:PSs X be (Zv Z g)):PS X (.If c bt be pos) (Zv Z (ifS t f g)):=(Zy6 hc ha hb).imp fun _ _ _ h=>Zzr h
theorem Zbv(i:Nat){x:Str}{pos':Pos}(hN:X.N.Nodup)(he:PE X a (Zc Z fa))(hi:X.N[i]? =some x:=by rfl)(hx:Loc X.env.scope x:=by first|exact Or.inl rfl|exact Or.inr rfl)(hs:swapsWith a (some (.Name x pos')) pos.line X.env=pure false:=by rfl)(hf:X.fn x=true∨X.env.scope.names.lookup x=some .local:=by first|exact .inl rfl|exact .inr rfl):
  PS X (.Assign [.Name x pos'] a pos) (Zv Z (setF i fa)):=(Zlu hN hi hx he hs hf).imp fun _ _ _ h=>Zvp h
theorem Zsr{tg iter:Expr}{body:List Stmt}{fi:FD}{g:FG}{f:FS}(hp:PassesOwn (model X.prog X.w) X.A X.env X.xe)(hc:X.calm=true)(hi:PI X tg iter (Zht Z fi))(hg:PG X tg (Zk4 Z g))(hb:PSs X body (Zv Z f))(hs:∀x,foldedSetIterable iter X.env x=pure x:=by intro _;rfl):
  PS X (.For tg iter body [] pos) (Zv Z (forF fi g f)):=(Zuz hp hc hi hg hb hs).imp fun _ _ _ h=>Zzv h
theorem Zmu(n:Nat){t:FT}{body:List Stmt}{f:FS}(hp:PassesOwn (model X.prog X.w) X.A X.env X.xe)(hc:PT X c (Zar Z t))(hb:PSs X body (Zv Z f)):PS X (.While c body [] pos) (Zv Z (Zbk t f n)):=(Zot hp hc hb).imp fun _ _ _ h=>Zsj h
theorem Z0b(i:Nat){x:Str}{px apos cpos:Pos}(hb:PE X b (Zc Z fb))(hN:X.N[i]? =some x:=by rfl)(hv:Vis X.env.scope x:=by first|exact Or.inl rfl|exact Or.inr (Or.inl rfl)|exact Or.inr (Or.inr rfl))(hd:(x==("__debug__":Str))=false:=by decide)
  (hcd:(x==("__classdict__":Str))=false:=by decide) (hbase:attributeBase (.Name x px) "append" X.env (eval (.Name x px) X.env)=eval (.Name x px) X.env:=by rfl)
  (hfew:((backTo cpos (starEach [b] X.env)).all (fun x=>!x.1)&&(backToKw cpos (keywordEach [] X.env)).all (fun x=>x.1.isSome)&&decide ([b].length+([]:List Keyword).length+(if([]:List Keyword).isEmpty then 0 else 1)<30))=true:=by rfl)
  (hline:(apos.endLine==cpos.line)=true:=by rfl) (hs:starEach [b] X.env=(false,eval b X.env)::starEach [] X.env:=by rfl) (hpl:(backTo cpos (starEach [] X.env)).any (·.1)=false:=by rfl) (hsw:swapsWith (.Call (.Attribute (.Name x px) "append" apos) [b] [] cpos) none pos.line X.env=pure false:=by rfl):
  PS X (.Expr (.Call (.Attribute (.Name x px) "append" apos) [b] [] cpos) pos) (Zv Z (appF i fb)):=
 (Zed (Zhk PySem.F.plainAttrs_list PySem.F.slot_list_append PySem.F.type_list_append Zc0 (Zg6 (i:=i) hN hv hd hcd) (Zac hb Zbb hs) hbase hfew hline hs hpl) hsw).imp fun _ _ _ h=>Zzw h
end
@[simp] noncomputable def Zds(f:FS)(n:Nat)(ds:List D):Option SV:=match f (Zf8 n ds)with
 |some (.rt sv)=>some sv
 |some (.nx _)=>some (.fz .non)
 |_=>none
theorem Zpl{N:List Str}{n:Nat}{f:FS}{vs:List V}{H:Hp}{Q:VK}{E:XK}(h:spOf K n (Zds f N.length) vs H Q E):∃F,Zv (ent H F:Ent K) f {nx:=fun _ H'=>Q .non H',rt:=Q} (L2.start N vs) H:=by
 obtain⟨F,ds,sv,le,r,hn,e,k⟩:=h
 unfold Zds at e
 split at e
 ·rename_i sw hf
  cases e
  exact⟨F,F,_,_,.rt sv,Zgk (N:=N) le r,hf,fun v H' F' ns a b c d e' nd ok=>k v H' F' ns d a b c e' nd ok⟩
 ·rename_i δ hf
  cases e
  exact⟨F,F,_,_,.nx δ,Zgk (N:=N) le r,hf,fun σ' H' F' own' a s'=>k .non H' F' [] s'.old a s'.le s'.fro (.fz .non) List.nodup_nil fun _ h=>(nomatch h)⟩
 ·cases e
noncomputable def Z3x(K:PySem.W.Frag):Sp:=fun vs H Q _=>∃(a:Addr) (ns:List Int),vs=[.ref a]∧SqL K H a (ns.map V.int)∧ns.length≤63∧∀H',Q (.bl true) H'
theorem Zjx{F:Hp}:∀ns:List Int,Reps K F (ns.map D.int) (ns.map V.int)
 | []=>.nil
 |n::r=>.cons (.int n) (Zjx r)
end DL
namespace DL
open PySem PySem.Spec PyProof.Rows L2
variable{K:PySem.W.Frag}
@[simp] noncomputable def Zmv(f:D→D→Option Bool):List D→List D→Option Bool
 |x::xs,y::ys=>(f x y).bind fun b=>(Zmv f xs ys).bind fun c=>some (b&&c)
 |_,_=>some true
@[simp] noncomputable def Zfj(f:D→D→Option Bool):D→D→Option Bool
 | .lst xs,.lst ys=>if xs.length=ys.length then Zmv f xs ys else some false
 | .tup xs,.tup ys=>(Zmv f xs ys).bind fun b=>some (b&&decide (xs.length=ys.length))
 | .lst _,.tup _=>some false
 | .tup _,.lst _=>some false
 |d1,d2=>eqS d1 d2
@[simp] noncomputable def eqN:Nat→D→D→Option Bool
 |0=>fun _ _=>none
 |n+1=>Zfj (eqN n)
theorem Zgo{F H:Hp}{d1 d2:D}{x y:V}{b:Bool}(e:eqS d1 d2=some b)(r1:RepN K F H d1 x)(r2:RepN K F H d2 y):Zav x=true∧Zav y=true∧b=eqV x y:=by
 unfold eqS at e
 split at e<;> cases e<;> (first|obtain rfl:=r1.non|obtain rfl:=r1.int|obtain rfl:=r1.bl|obtain rfl:=r1.str)<;> (first|obtain rfl:=r2.non|obtain rfl:=r2.int|obtain rfl:=r2.bl|obtain rfl:=r2.str)<;> refine⟨rfl,rfl,?_⟩<;> first|rfl|simp[eqV]
section
variable{X:Cx}{pins:List (Addr×Obj)}{σ:L2.St}{F H:Hp}{s:Shared}
theorem Zpm{x y:V}{v:Value}(rx:RelV x v)(ry:RelV y v)(fx:Zav x=true)(fy:Zav y=true):eqV x y=true:=by
 cases x with
 |non=>cases rx;cases y with
  |non=>rfl
  |bl b=>cases ry
  |int b=>obtain⟨t,e⟩:=ry;cases e
  |str b=>obtain⟨t,e⟩:=ry;cases e
  |_=>cases fy
 |bl a=>cases rx;cases y with
  |non=>cases ry
  |bl b=>cases ry;simp[eqV]
  |int b=>obtain⟨t,e⟩:=ry;cases e
  |str b=>obtain⟨t,e⟩:=ry;cases e
  |_=>cases fy
 |int a=>obtain⟨t,rfl⟩:=rx;cases y with
  |non=>cases ry
  |bl b=>cases ry
  |int b=>obtain⟨t,e⟩:=ry;cases e;simp[eqV]
  |str b=>obtain⟨t,e⟩:=ry;cases e
  |_=>cases fy
 |str a=>obtain⟨t,rfl⟩:=rx;cases y with
  |non=>cases ry
  |bl b=>cases ry
  |int b=>obtain⟨t,e⟩:=ry;cases e
  |str b=>obtain⟨t,e⟩:=ry;cases e;simp[eqV]
  |_=>cases fy
 |_=>cases fx
theorem Zla{h:Heap}{a:Addr}{i1 i2:Array Value}(h1:h.IsList a i1)(h2:h.IsList a i2):i1=i2:=by
 obtain⟨o,e1,c1,n1,d1⟩:=h1
 obtain⟨o2,e2,c2,n2,d2⟩:=h2
 rw[e1]at e2;cases e2
 rw[d1]at d2;cases d2;rfl
theorem Zi5{h:Heap}{a:Addr}{i1 i2:Array Value}(h1:h.IsTuple a i1)(h2:h.IsTuple a i2):i1=i2:=by
 obtain⟨o,e1,c1,n1,d1⟩:=h1
 obtain⟨o2,e2,c2,n2,d2⟩:=h2
 rw[e1]at e2;cases e2
 rw[d1]at d2;cases d2;rfl
theorem Zmw{f:D→D→Option Bool}(hf:∀d1 d2 b x y v,Rep X.K F d1 x→RelV x v→Rep X.K F d2 y→RelV y v→f d1 d2=some b→b=true){xs:List D}:∀{ys:List D} {vs ws:List V} {us:List Value} {b:Bool},Reps X.K F xs vs→Vals vs us→Reps X.K F ys ws→Vals ws us→Zmv f xs ys=some b→b=true:=by
 induction xs with
 |nil=>intro ys vs ws us b _ _ _ _ e;cases e;rfl
 |cons x xs ih=>
  intro ys vs ws us b r1 v1 r2 v2 e
  cases r1 with
  |cons h1 t1=>
   cases v1 with
   |cons a1 w1=>
    cases v2 with
    |cons a2 w2=>
     cases r2 with
     |cons h2 t2=>
      obtain⟨b,e1,e2⟩:=Option.bind_eq_some_iff.mp e
      obtain⟨c,e3,e4⟩:=Option.bind_eq_some_iff.mp e2
      cases e4
      rw[hf _ _ _ _ _ _ h1 a1 h2 a2 e1,ih t1 w1 t2 w2 e3];rfl
theorem Zmx(I:Inv X pins σ H s)(le:Same F H){f:D→D→Option Bool}(ih:∀(d1 d2:D) (b:Bool) (x y:V) (v:Value),Rep X.K F d1 x→RelV x v→Rep X.K F d2 y→RelV y v→f d1 d2=some b→b=true)(d1 d2:D)(b:Bool)(x y:V)(v:Value)(r1:Rep X.K F d1 x)(v1:RelV x v)(r2:Rep X.K F d2 y)(v2:RelV y v)(e:Zfj f d1 d2=some b):b=true:=by
  unfold Zfj at e
  split at e
  ·rename_i xs ys
   cases r1 with
   |lst q1 p1=>
   cases r2 with
   |lst q2 p2=>
   cases v1;cases v2
   obtain⟨i1,w1,l1,_⟩:=I.list (Zb0 le q1)
   obtain⟨i2,w2,l2,_⟩:=I.list (Zb0 le q2)
   have z:=Zla l1.isList l2.isList
   have z:i1=i2:=by simpa using z
   subst z
   split at e
   ·exact Zmw (ih) p1 w1 p2 w2 e
   ·rename_i hl
    have h1:=w1.length
    have h2:=w2.length
    have h3:=p1.length
    have h4:=p2.length
    exact absurd (by omega) hl
  ·rename_i xs ys
   cases r1 with
   |tup q1 p1=>
   cases r2 with
   |tup q2 p2=>
   cases v1;cases v2
   obtain⟨i1,w1,l1,_⟩:=I.tuple (Zcj le (Zix q1))
   obtain⟨i2,w2,l2,_⟩:=I.tuple (Zcj le (Zix q2))
   have z:=Zi5 l1 l2
   have z:i1=i2:=by simpa using z
   subst z
   obtain⟨c,e1,e2⟩:=Option.bind_eq_some_iff.mp e
   cases e2
   have h1:=w1.length
   have h2:=w2.length
   have h3:=p1.length
   have h4:=p2.length
   rw[Zmw (ih) p1 w1 p2 w2 e1,decide_eq_true (by omega)];rfl
  ·cases r1 with
   |lst q1 p1=>
   cases r2 with
   |tup q2 p2=>
   cases v1;cases v2
   obtain⟨i1,w1,l1,_⟩:=I.list (Zb0 le q1)
   obtain⟨i2,w2,l2,_⟩:=I.tuple (Zcj le (Zix q2))
   exact absurd rfl (SeqAt.ne_of_list_tuple (s:=s) l1.isList l2)
  ·cases r1 with
   |tup q1 p1=>
   cases r2 with
   |lst q2 p2=>
   cases v1;cases v2
   obtain⟨i1,w1,l1,_⟩:=I.tuple (Zcj le (Zix q1))
   obtain⟨i2,w2,l2,_⟩:=I.list (Zb0 le q2)
   exact absurd rfl (SeqAt.ne_of_list_tuple (s:=s) l2.isList l1)
  ·obtain⟨f1,f2,rfl⟩:=Zgo (H:=H) e (RepN.of r1) (RepN.of r2)
   exact Zpm v1 v2 f1 f2
theorem Zjy(I:Inv X pins σ H s)(le:Same F H):∀(n:Nat) (d1 d2:D) (b:Bool) (x y:V) (v:Value),Rep X.K F d1 x→RelV x v→Rep X.K F d2 y→RelV y v→eqN n d1 d2=some b→b=true
 |0,_,_,_,_,_,_,_,_,_,_,e=>by cases e
 |n+1,d1,d2,b,x,y,v,r1,v1,r2,v2,e=>Zmx I le (Zjy I le n) d1 d2 b x y v r1 v1 r2 v2 e
theorem Zjz{A:Around}{f:D→D→Option Bool}(hf:∀d1 d2 b x y v u,Rep X.K F d1 x→RelV x v→Rep X.K F d2 y→RelV y u→f d1 d2=some b→SeqAt.EqAt A s v u b){xs:List D}:∀{ys:List D} {vs ws:List V} {us zs:List Value} {b:Bool},Reps X.K F xs vs→Vals vs us→Reps X.K F ys ws→Vals ws zs→Zmv f xs ys=some b→
  ∃e:Nat→Bool,(∀j (h1:j<us.length) (h2:j<zs.length),SeqAt.EqAt A s us[j] zs[j] (e j))∧(List.range (min us.length zs.length)).all e=b:=by
 induction xs with
 |nil=>
  intro ys vs ws us zs b r1 v1 _ _ e
  cases r1
  cases v1
  cases e
  exact⟨fun _=>true,fun j h1=>absurd h1 (Nat.not_lt_zero _),by rw[List.length_nil,Nat.zero_min];rfl⟩
 |cons x xs ih=>
  intro ys vs ws us zs b r1 v1 r2 v2 e
  cases r1 with
  |cons h1 t1=>
   cases v1 with
   |cons a1 w1=>
    cases v2 with
    |nil=>
     cases r2
     cases e
     exact⟨fun _=>true,fun j _ h2=>absurd h2 (Nat.not_lt_zero _),by rw[List.length_nil,Nat.min_zero];rfl⟩
    |cons a2 w2=>
     cases r2 with
     |cons h2 t2=>
      obtain⟨b,e1,e2⟩:=Option.bind_eq_some_iff.mp e
      obtain⟨c,e3,e4⟩:=Option.bind_eq_some_iff.mp e2
      cases e4
      obtain⟨g,g1,g2⟩:=ih t1 w1 t2 w2 e3
      refine⟨fun j=>Nat.casesOn j b g,fun j h1 h2=>?_,?_⟩
      ·cases j with
       |zero=>exact hf _ _ _ _ _ _ _ ‹_› a1 ‹_› a2 e1
       |succ j=>exact g1 j (Nat.lt_of_succ_lt_succ h1) (Nat.lt_of_succ_lt_succ h2)
      ·rw[List.length_cons,List.length_cons,Nat.succ_min_succ,List.range_succ_eq_map,List.all_cons,List.all_map,←g2]
       rfl
theorem rcN(I:Inv X pins σ H s)(le:Same F H){A:Around}{f:D→D→Option Bool}{d1 d2:D}{b:Bool}{x y:V}{v u:Value}
  (ih:∀d1 d2 b x y v u,Rep X.K F d1 x→RelV x v→Rep X.K F d2 y→RelV y u→f d1 d2=some b→SeqAt.EqAt A.in1 s v u b) (r1:RepN X.K F H d1 x) (v1:RelV x v) (r2:RepN X.K F H d2 y) (v2:RelV y u)
  (e:Zfj f d1 d2=some b) (hu:A.units<cLine) (hr:Zav x=false∨Zav y=false):(∃a c,v= .ref a∧u= .ref c)∧SeqAt.RcAt A s v u b∧SeqAt.RcNeAt A s v u (!b):=by
 unfold Zfj at e
 split at e
 ·obtain⟨a1,vs1,rfl,q1,p1⟩:=r1.lst le
  obtain⟨a2,vs2,rfl,q2,p2⟩:=r2.lst le
  cases v1;cases v2
  obtain⟨i1,w1,l1,_⟩:=I.list q1
  obtain⟨i2,w2,l2,_⟩:=I.list q2
  have h1:=w1.length
  have h2:=w2.length
  have h3:=p1.length
  have h4:=p2.length
  refine⟨⟨_,_,rfl,rfl⟩,?_⟩
  split at e
  ·rename_i hl
   obtain⟨g,g1,g2⟩:=Zjz ih p1 w1 p2 w2 e
   have hm:min i1.length i2.length=i1.toArray.size:=by simp;omega
   rw[hm]at g2
   subst g2
   have hz:i1.toArray.size=i2.toArray.size:=by simp;omega
   exact⟨SeqAt.RcAt.lists l1.isList l2.isList hz hu (fun j j1 j2=>by simpa using g1 j (by simpa using j1) (by simpa using j2)),SeqAt.RcNeAt.lists l1.isList l2.isList hz hu (fun j j1 j2=>by simpa using g1 j (by simpa using j1) (by simpa using j2))⟩
  ·rename_i hl
   cases e
   have hz:(i1.toArray.size !=i2.toArray.size)=true:=by simp;omega
   exact⟨SeqAt.RcAt.lists_lengths l1.isList l2.isList hz hu,SeqAt.RcNeAt.lists_lengths l1.isList l2.isList hz hu⟩
 ·rename_i xs ys
  obtain⟨a1,vs1,rfl,q1,p1⟩:=r1.tup le
  obtain⟨a2,vs2,rfl,q2,p2⟩:=r2.tup le
  cases v1;cases v2
  obtain⟨i1,w1,l1,_⟩:=I.tuple q1
  obtain⟨i2,w2,l2,_⟩:=I.tuple q2
  have h1:=w1.length
  have h2:=w2.length
  have h3:=p1.length
  have h4:=p2.length
  obtain⟨c,e1,e2⟩:=Option.bind_eq_some_iff.mp e
  cases e2
  refine⟨⟨_,_,rfl,rfl⟩,?_⟩
  obtain⟨g,g1,g2⟩:=Zjz ih p1 w1 p2 w2 e1
  subst g2
  have e3:((List.range (min i1.length i2.length)).all g&&decide (xs.length=ys.length))=((List.range (min i1.toArray.size i2.toArray.size)).all g&&i1.toArray.size==i2.toArray.size):=by
   have:(i1.toArray.size==i2.toArray.size)=decide (xs.length=ys.length):=by
    rw[List.size_toArray,List.size_toArray,←h1,←h2,←h3,←h4];rfl
   rw[this];simp
  rw[e3]
  exact⟨SeqAt.RcAt.tuples l1 l2 hu (fun j j1 j2=>by simpa using g1 j (by simpa using j1) (by simpa using j2)),SeqAt.RcNeAt.tuples l1 l2 hu (fun j j1 j2=>by simpa using g1 j (by simpa using j1) (by simpa using j2))⟩
 ·obtain⟨a1,vs1,rfl,q1,p1⟩:=r1.lst le
  obtain⟨a2,vs2,rfl,q2,p2⟩:=r2.tup le
  cases v1;cases v2
  cases e
  obtain⟨i1,w1,l1,_⟩:=I.list q1
  obtain⟨i2,w2,l2,_⟩:=I.tuple q2
  exact⟨⟨_,_,rfl,rfl⟩,SeqAt.RcAt.list_tuple l1.isList l2 hu,SeqAt.RcNeAt.list_tuple l1.isList l2 hu⟩
 ·obtain⟨a1,vs1,rfl,q1,p1⟩:=r1.tup le
  obtain⟨a2,vs2,rfl,q2,p2⟩:=r2.lst le
  cases v1;cases v2
  cases e
  obtain⟨i1,w1,l1,_⟩:=I.tuple q1
  obtain⟨i2,w2,l2,_⟩:=I.list q2
  exact⟨⟨_,_,rfl,rfl⟩,SeqAt.RcAt.tuple_list l1 l2.isList hu,SeqAt.RcNeAt.tuple_list l1 l2.isList hu⟩
 ·obtain⟨f1,f2,_⟩:=Zgo e r1 r2
  rcases hr with hr|hr
  ·rw[f1]at hr;cases hr
  ·rw[f2]at hr;cases hr
theorem Zmy(I:Inv X pins σ H s)(le:Same F H):∀(n:Nat) (A:Around) (d1 d2:D) (b:Bool) (x y:V) (v u:Value),A.units+n<cLine→Rep X.K F d1 x→RelV x v→Rep X.K F d2 y→RelV y u→eqN n d1 d2=some b→SeqAt.EqAt A s v u b
 |0,_,_,_,_,_,_,_,_,_,_,_,_,_,e=>by cases e
 |n+1,A,d1,d2,b,x,y,v,u,hu,r1,v1,r2,v2,e=>by
  by_cases hf:Zav x=true∧Zav y=true
  ·have e':eqS d1 d2=some b:=by
    unfold eqN Zfj at e
    split at e
    ·cases r1;cases hf.1
    ·cases r1;cases hf.1
    ·cases r1;cases hf.1
    ·cases r1;cases hf.1
    ·exact e
   obtain⟨f1,f2,rfl⟩:=Zgo (H:=H) e' (RepN.of r1) (RepN.of r2)
   exact Zqj v1 v2 f1 f2
  ·have hf':Zav x=false∨Zav y=false:=by
    cases h1:Zav x with
    |false=>exact .inl rfl
    |true=>cases h2:Zav y with
     |false=>exact .inr rfl
     |true=>exact absurd ⟨h1,h2⟩ hf
   obtain⟨⟨a,c,rfl,rfl⟩,h1,_⟩:=rcN I le (A:=A) (f:=eqN n) (fun d1 d2 b x y v u q1 w1 q2 w2 e=>Zmy I le n A.in1 d1 d2 b x y v u (by have:A.in1.units=A.units+1:=rfl;omega) q1 w1 q2 w2 e) (RepN.of r1) v1 (RepN.of r2) v2 e (by omega) hf'
   by_cases hac:a=c
   ·subst hac
    rw[Zjy I le (n+1) d1 d2 b x y _ r1 v1 r2 v2 e]
    exact SeqAt.EqAt.same _
   ·exact SeqAt.EqAt.of_refs hac h1
noncomputable def rEqN(K:PySem.W.Frag)(neg:Bool):R2:=fun x y H Q=>∃F d1 d2 b,Same F H∧RepN K F H d1 x∧RepN K F H d2 y∧eqN 48 d1 d2=some b∧(Zav x=false∨Zav y=false)∧Q (.bl (if neg then !b else b)) H
theorem Zqt(hu:X.A.units+64<cLine):OpR X (compareOp .Eq) (rEqN X.K false):=by
 intro pins s σ H x y v u Q I rx ry h
 obtain⟨F,d1,d2,b,le,r1,r2,e,hf,q⟩:=h
 obtain⟨_,h1,_⟩:=rcN I le (A:=X.A) (f:=eqN 47) (fun d1 d2 b x y v u q1 w1 q2 w2 e=>Zmy I le 47 X.A.in1 d1 d2 b x y v u (by have:X.A.in1.units=X.A.units+1:=rfl;omega) q1 w1 q2 w2 e) r1 rx r2 ry e (by omega) hf
 exact h1 X.prog X.w X.xe _ ⟨.bl b,H,I,rfl,q⟩
theorem Zv5(hu:X.A.units+64<cLine):OpR X (compareOp .NotEq) (rEqN X.K true):=by
 intro pins s σ H x y v u Q I rx ry h
 obtain⟨F,d1,d2,b,le,r1,r2,e,hf,q⟩:=h
 obtain⟨_,_,h1⟩:=rcN I le (A:=X.A) (f:=eqN 47) (fun d1 d2 b x y v u q1 w1 q2 w2 e=>Zmy I le 47 X.A.in1 d1 d2 b x y v u (by have:X.A.in1.units=X.A.units+1:=rfl;omega) q1 w1 q2 w2 e) r1 rx r2 ry e (by omega) hf
 exact h1 X.prog X.w X.xe _ ⟨.bl !b,H,I,rfl,q⟩
end
@[simp] noncomputable def D.isFlat:D→Bool
 | .non=>true| .bl _=>true| .int _=>true| .str _=>true|_=>false
@[simp] noncomputable def eqX(d1 d2:D):Option SV:=if d1.isFlat=true∧d2.isFlat=true then eqD d1 d2 else(eqN 48 d1 d2).bind fun b=>some (.fz (.bl b))
@[simp] noncomputable def neX(d1 d2:D):Option SV:=if d1.isFlat=true∧d2.isFlat=true then neD d1 d2 else(eqN 48 d1 d2).bind fun b=>some (.fz (.bl !b))
theorem Zdm{F H:Hp}{d:D}{x:V}(r:RepN K F H d x)(h:d.isFlat=false):Zav x=false:=by
 obtain⟨sv,ns,e,n,sh,hp⟩:=r
 cases sh with
 |fz r=>cases e;cases r<;> first|rfl|cases h
 |ol r=>rfl
 |oK e' r=>rfl
 |oT kb e' r=>rfl
 |oN e' r=>rfl
 |oL _ r=>rfl
section
variable{Z:Ent K}
theorem Zv6:Zbg Z (fun x y H Q=>rEq x y H Q∨rEqN K false x y H Q) eqX:=by
 intro F H σ δ own x y d1 d2 sv Q s r1 r2 e k
 unfold eqX at e
 split at e
 ·exact .inl (p_eq F H σ δ own x y d1 d2 sv Q s r1 r2 e k)
 ·rename_i hf
  obtain⟨b,e1,e2⟩:=Option.bind_eq_some_iff.mp e
  cases e2
  refine .inr ⟨F,d1,d2,b,s.le,r1,r2,e1,?_,k.fz s (.bl _)⟩
  cases h1:d1.isFlat with
  |false=>exact .inl (Zdm r1 h1)
  |true=>cases h2:d2.isFlat with
   |false=>exact .inr (Zdm r2 h2)
   |true=>exact absurd ⟨h1,h2⟩ hf
theorem Z0c:Zbg Z (fun x y H Q=>rNe x y H Q∨rEqN K true x y H Q) neX:=by
 intro F H σ δ own x y d1 d2 sv Q s r1 r2 e k
 unfold neX at e
 split at e
 ·exact .inl (p_ne F H σ δ own x y d1 d2 sv Q s r1 r2 e k)
 ·rename_i hf
  obtain⟨b,e1,e2⟩:=Option.bind_eq_some_iff.mp e
  cases e2
  refine .inr ⟨F,d1,d2,b,s.le,r1,r2,e1,?_,k.fz s (.bl _)⟩
  cases h1:d1.isFlat with
  |false=>exact .inl (Zdm r1 h1)
  |true=>cases h2:d2.isFlat with
   |false=>exact .inr (Zdm r2 h2)
   |true=>exact absurd ⟨h1,h2⟩ hf
@[simp] noncomputable def negD:D→Option SV
 | .int i=>some (.fz (.int (-i)))
 |_=>none
theorem Z0d:Zo9 Z (rU fun i=>.int (-i)) negD:=by
 intro F H σ δ own x d sv Q s r e k
 unfold negD at e
 split at e
 ·cases e;exact⟨_,r.int,k.fz s (.int _)⟩
 ·cases e
end
section
variable{X:Cx}{Z:Ent X.K}{a b c:Expr}{fa fb fc:FE}{pos:Pos}
theorem Zv7(ha:PE X a (Zc Z fa)):PE X (.UnaryOp .USub a pos) (Zc Z (unF negD fa)):=(Zu0 Zqf ha).imp fun _ _ _ h=>l_un Z0d h
theorem Z0e(hv:X.A.units+64<cLine)(ha:PE X a (Zc Z fa))(hb:PE X b (Zc Z fb)):PE X (.Compare a [.Eq] [b] pos) (Zc Z (binF eqX fa fb)):=Zv1 (Zu5.or (Zqt hv)) Zv6 ha hb (Zf6 _)
theorem Zc3(hv:X.A.units+64<cLine)(ha:PE X a (Zc Z fa))(hb:PE X b (Zc Z fb)):PT X (.Compare a [.Eq] [b] pos) (Zar Z (Zz (binF eqX fa fb))):=Zk7 (Zu5.or (Zqt hv)) Zv6 ha hb (Zf6 _)
theorem Zv8(hv:X.A.units+64<cLine)(ha:PE X a (Zc Z fa))(hb:PE X b (Zc Z fb)):PT X (.Compare a [.NotEq] [b] pos) (Zar Z (Zz (binF neX fa fb))):=Zk7 (Zy8.or (Zv5 hv)) Z0c ha hb (Zf6 _)
end
end DL
namespace L2
open PySem PySem.Spec PyProof.Rows
section
variable{X:Cx}{tg:Expr}
noncomputable def Its(z:Str):It:=⟨fun i _=>i<z.length,fun i H x H'=>H'=H∧∃c,z.cps[i]? =some c∧x= .str ⟨#[c]⟩,fun i _=>z.length≤i⟩
theorem Zmz{P:Program}{w:World}{K:PySem.W.Frag}{tg:Expr}(z:Str)(t:Tok)(it:Addr):Turn P w K tg (Its z) [it] it (fun i h=>h.IsStrIter it (strIterType z) z t i)where
 mem:=by simp
 obj:=fun i h st b hb=>by
  have e:b=it:=by simpa using hb
  subst e
  obtain⟨o,e,c,d⟩:=st
  exact⟨o,e,fun v q=>by rw[d]at q;cases q⟩
 keep:=fun i h h' st k=>by
  obtain⟨o,e,c,d⟩:=st
  exact⟨o,k it (by simp) o e,c,d⟩
 item:=by
  intro X hP hw hK hc i pins s σ H E I hf st hg
  subst hP hw hK
  obtain⟨f0,f1,f2,f3,f4,f5⟩:=hf it (by simp)
  have hlt:i<z.cps.size:=hg
  have hx:z.cps[i]? =some z.cps[i]:=by simp[hlt]
  have fin:∀h',h'.IsStrIter it (strIterType z) z t (i+1)→Heap.SameBut it s.heap h'→∃u,some (Value.str ⟨#[z.cps[i]]⟩ s.toks)=some u∧wpAny (model X.prog X.w) X.A (letOwnedTupleGo tg (.ref it) u) (fun _ s2=>∃x H',Inv X pins σ H' s2∧RelV x u∧(Its z).yld i H x H'∧s2.heap.IsStrIter it (strIterType z) z t (i+1)∧∀b∈[it],H' b=none) E {s with heap:=h',toks:=s.toks+1}:=fun h' st' sb=>by
   have I1:Inv X pins σ H {s with heap:=h',toks:=s.toks+1}:=I.turned (t':=s.toks+1) (fun b o hb q=>(sb.2 b hb).trans q) f0 f1 f3 f4 f5
   obtain⟨o,e,c,d⟩:=id st'
   have hn:["enumerate","zip","dict_itemiterator","dict_reverseitemiterator","odict_iterator","itertools.zip_longest","itertools.pairwise"].contains (strIterType z)=false:=by
    unfold strIterType
    split<;> decide
   exact⟨_,rfl,Zou (s:={s with heap:=h',toks:=s.toks+1}) e c d hn ⟨.str ⟨#[z.cps[i]]⟩,H,I1,⟨_,rfl⟩,⟨rfl,_,hx,rfl⟩,st',fun b hb=>(hf b hb).1⟩⟩
  cases ha:z.cps.all (· <128)with
  |false=>
   have et:strIterType z="str_iterator":=by unfold strIterType;rw[ha];rfl
   rw[et]at st fin
   rw[et]
   exact wpAny_pyNext_wide_item st hx fin
  |true=>
   have et:strIterType z="str_ascii_iterator":=by unfold strIterType;rw[ha];rfl
   rw[et]at st fin
   rw[et]
   exact wpAny_pyNext_ascii_item st hx fin
 done:=by
  intro X hP hw hK hc i pins s σ H E I hf st hg
  subst hP hw hK
  obtain⟨f0,f1,f2,f3,f4,f5⟩:=hf it (by simp)
  have hge:z.cps.size≤i:=hg
  have hx:z.cps[i]? =none:=by simp[hge]
  cases ha:z.cps.all (· <128)with
  |false=>
   have et:strIterType z="str_iterator":=by unfold strIterType;rw[ha];rfl
   rw[et]at st
   exact wpAny_pyNext_wide_end (I.ok.hd hc) st hx fun h' eb=>⟨rfl,I.turned (t':=s.toks) (fun b o hb q=>eb b o hb q) f0 f1 f3 f4 f5⟩
  |true=>
   have et:strIterType z="str_ascii_iterator":=by unfold strIterType;rw[ha];rfl
   rw[et]at st
   exact wpAny_pyNext_ascii_end (I.ok.hd hc) st hx fun h' eb=>⟨rfl,I.turned (t':=s.toks) (fun b o hb q=>eb b o hb q) f0 f1 f3 f4 f5⟩
 self:=fun _ _ _ _ _ st h=>by
  cases ha:z.cps.all (· <128)with
  |false=>
   have et:strIterType z="str_iterator":=by unfold strIterType;rw[ha];rfl
   rw[et]at st
   exact wpAny_pyIter_striter_wide st h
  |true=>
   have et:strIterType z="str_ascii_iterator":=by unfold strIterType;rw[ha];rfl
   rw[et]at st
   exact wpAny_pyIter_striter_ascii st h
noncomputable def iAny(K:PySem.W.Frag)(tl:TE):TI:=fun σ H R=>tl σ H fun x H1=>(∃a,x= .ref a∧(∃xs,SqL K H1 a xs)∧R (Itl K a) H1)∨(∃a,x= .ref a∧(∃xs,SqT K H1 a xs)∧R (Itt K a) H1)∨(∃z,x= .str z∧R (Its z) H1)
theorem Zv9{l:Expr}{tl:TE}(hl:PE X l tl):PI X tg l (iAny X.K tl):=by
 intro pins s σ H R I h
 refine thn (hl pins s σ H _ I h) fun v s1 zq9=>?_
 obtain⟨x,H1,I1,r1,q1⟩:=zq9
 rcases q1 with⟨a,e,⟨xs,hq⟩,q⟩|⟨a,e,⟨xs,hq⟩,q⟩|⟨z,e,q⟩
 ·subst e
  cases r1
  obtain⟨its,rv,p,hz⟩:=I1.list hq
  refine wpAny_pyIter_list p.isList ?_
  refine⟨s1.heap.objs.size,[s1.heap.objs.size],_,_,H1,rfl,I1.kept (t':=s1.toks) fun b o e=>Heap.get?_push_of_some _ e,Zlv a _,⟨_,Heap.get?_push_size _ rfl,rfl,rfl⟩,fun b hb=>?_,q⟩
  have e:b=s1.heap.objs.size:=by simpa using hb
  subst e
  exact I1.fpOk (Nat.le_refl _) (I1.hok.fresh (Nat.le_refl _))
 ·subst e
  cases r1
  obtain⟨its,rv,p,hz⟩:=I1.tuple hq
  refine wpAny_pyIter_tuple (show s1.heap.IsTuple a its.toArray from p) ?_
  refine⟨s1.heap.objs.size,[s1.heap.objs.size],_,_,H1,rfl,I1.kept (t':=s1.toks) fun b o e=>Heap.get?_push_of_some _ e,Zkw a _,⟨_,Heap.get?_push_size _ rfl,rfl,rfl⟩,fun b hb=>?_,q⟩
  have e:b=s1.heap.objs.size:=by simpa using hb
  subst e
  exact I1.fpOk (Nat.le_refl _) (I1.hok.fresh (Nat.le_refl _))
 ·subst e
  obtain⟨t,rfl⟩:=r1
  refine wpAny_pyIter_strU ?_
  refine⟨s1.heap.objs.size,[s1.heap.objs.size],_,_,H1,rfl,I1.kept (t':=s1.toks) fun b o e=>Heap.get?_push_of_some _ e,Zmz z t _,⟨_,Heap.get?_push_size _ rfl,rfl,rfl⟩,fun b hb=>?_,q⟩
  have e:b=s1.heap.objs.size:=by simpa using hb
  subst e
  exact I1.fpOk (Nat.le_refl _) (I1.hok.fresh (Nat.le_refl _))
theorem Zh1:∀l:List (Str×Tok),Vals ((l.map (·.1)).map V.str) (strValues l)
 | []=>.nil
 | (x,t)::r=>.cons ⟨t,rfl⟩ (Zh1 r)
noncomputable def Zqu:V→List V→Hp→VK→Prop:=fun x xs H Q=>∃a b,x= .str a∧xs=[.str b]∧(b.length==0)=false∧a.length≤sizeLine∧(Txt.split a b).length≤sizeLine∧∀p,H p=none→Q (.ref p) (upd H p (.lst ((Txt.split a b).map V.str)))
theorem Zpn:MtR X "str.split" Zqu:=by
 intro pins s σ H x xs v us Q I rx rs h
 obtain⟨a,b,rfl,rfl,hb,ha,hz,q⟩:=h
 obtain⟨t,rfl⟩:=rx
 obtain⟨u,rfl,ru⟩:=Zfw rs
 obtain⟨t',rfl⟩:=ru
 have one:Txt.split a b=[a]→∀tk,EP X pins σ Q (.ref s.heap.objs.size) {s with toks:=tk,heap:=s.heap.push {cls:=.type "list",data:=.seq #[.str a t]}}:=fun e tk=>by
  rw[e]at q
  exact⟨.ref _,_,I.lnew (t':=tk) (ys:=[.str a]) (its:=[.str a t]) (.cons ⟨t,rfl⟩ .nil) (by show 1≤sizeLine;decide),rfl,q _ I.fresh⟩
 cases h1:(decide (a.length<b.length)||decide (Builtin.Str.strKind a<Builtin.Str.strKind b))
 ·cases hf:(Builtin.Str.occurrences a b 0 a.length (a.length+1)).isEmpty
  ·have e:Txt.split a b=Builtin.Str.partsBetween a (Builtin.Str.occurrences a b 0 a.length (a.length+1)) b.length:=(if_neg (ne_true_of_eq_false h1)).trans (if_neg (ne_true_of_eq_false hf))
   rw[e]at hz q
   refine call_meets F.slot_str_split (typeIs_str _ _ _) F.entry_str_split (F.args_str_split_2 _ _) (meets_str_split_sep a b t t' h1 hb hf ha hz) ?_
   rw[strsFrom_eq]
   have hv:=Zh1 (numbered s.toks (Builtin.Str.partsBetween a (Builtin.Str.occurrences a b 0 a.length (a.length+1)) b.length))
   rw[numbered_texts]at hv
   exact⟨.ref _,_,I.lnew (t':=_) hv (by rw[List.length_map];exact hz),rfl,q _ I.fresh⟩
  ·exact call_meets F.slot_str_split (typeIs_str _ _ _) F.entry_str_split (F.args_str_split_2 _ _) (meets_str_split_not_found a b t t' h1 hb hf) (one ((if_neg (ne_true_of_eq_false h1)).trans (if_pos hf)) s.toks)
 ·exact call_meets F.slot_str_split (typeIs_str _ _ _) F.entry_str_split (F.args_str_split_2 _ _) (meets_str_split_cannot_occur a b t t' h1) (one (if_pos h1) s.toks)
noncomputable def Z3y:V→List V→Hp→VK→Prop:=fun x xs H Q=>∃a b,x= .str a∧xs=[.str b]∧(b.length==0)=false∧a.length≤sizeLine∧∀p,H p=none→Q (.ref p) (upd H p (.tup [.str (Txt.partition a b).1,.str (Txt.partition a b).2.1,.str (Txt.partition a b).2.2]))
noncomputable def rAll(K:PySem.W.Frag):List V→Hp→VK→Prop:=fun xs H Q=>∃(p:Addr) (bs:List Bool),xs=[.ref p]∧SqL K H p (bs.map V.bl)∧Q (.bl (bs.all id)) H
theorem Zj0:∀{bs:List Bool} {us:List Value},Vals (bs.map V.bl) us→us=bs.map Value.bool
 | [],_,r=>by rw[List.map_nil]at r;cases r;rfl
 |b::bs,_,r=>by
  rw[List.map_cons]at r
  cases r with
  |cons h t=>
   cases(show _=Value.bool b from h)
   rw[Zj0 t];rfl
theorem Zh2:∀bs:List Bool,(List.range bs.length).all (fun i=>(bs[i]?).getD true)=bs.all id
 | []=>rfl
 |b::bs=>by
  rw[List.length_cons,List.range_succ_eq_map,List.all_cons,List.all_map,List.all_cons,←Zh2 bs]
  rfl
theorem Zpo(hc:X.calm=true):Zcx X (.builtin "all") (rAll X.K):=by
 intro pins s σ H xs us Q I rs h
 obtain⟨p,bs,rfl,hq,q⟩:=h
 obtain⟨u,rfl,ru⟩:=Zfw rs
 cases ru
 obtain⟨its,rv,pl,hz⟩:=I.list hq
 have e:=Zj0 rv
 subst e
 refine call_all_walk (wpAny_pyIter_list pl.isList ?_)
 have hne:p≠s.heap.objs.size:=fun z=>by
  obtain⟨o,ho,_⟩:=pl.isList
  have:=Heap.lt_size ho
  rw[z]at this;exact Nat.lt_irrefl _ this
 refine⟨s.heap.objs.size,_,_,_,_,_,fun i=>(bs[i]?).getD true,rfl,Walks.list (by first|exact I.ok.hd hc| (rw[show X.A.in1.handled=X.A.handled from rfl];exact I.ok.hd hc)) _ p hne (bs.map Value.bool).toArray,⟨⟨_,Heap.get?_push_size _ rfl,rfl,rfl⟩,pl.isList.at fun o e=>Heap.get?_push_of_some _ e⟩,?_,fun h' tk hk=>?_⟩
 ·intro i v s' Q' E' hP hQ
  have hP':(bs.map Value.bool)[i]? =some v:=by simpa using hP
  rw[List.getElem?_map]at hP'
  cases hb:bs[i]? with
  |none=>rw[hb]at hP';cases hP'
  |some b=>
   rw[hb]at hP'
   cases hP'
   dsimp only at hQ
   rw[hb]at hQ
   exact wpAny_truthy_bool hQ
 ·have e:(List.range (bs.map Value.bool).toArray.size).all (fun i=>(bs[i]?).getD true)=bs.all id:=by
   rw[List.size_toArray,List.length_map];exact Zh2 bs
  rw[e]
  refine⟨.bl _,H,I.kept (t':=tk) fun b o hb=>hk b o (fun z=>?_) (Heap.get?_push_of_some _ hb),rfl,q⟩
  have z':b=s.heap.objs.size:=by simpa using z
  have:=Heap.lt_size hb
  rw[z']at this;exact Nat.lt_irrefl _ this
end
end L2
namespace DL
open PySem PySem.Spec PyProof.Rows L2
variable{K:PySem.W.Frag}
noncomputable def signs(z:Str):List D:=z.cps.toList.map fun c=>.str ⟨#[c]⟩
theorem Zi6{z:Str}{F:Hp}:Zhs K (Its z) F (signs z):=fun F' H sF sH i=>by
 have hl:(signs z).length=z.length:=by unfold signs;rw[List.length_map];rfl
 refine⟨fun d hd=>?_,fun h=>by rw[hl]at h;exact h⟩
 have hi:i<z.length:=by
  have:=(List.getElem?_eq_some_iff.mp hd).1
  rw[hl]at this;exact this
 refine⟨hi,fun x H' zq9=>?_⟩
 obtain⟨e1,c,e2,e3⟩:=zq9
 subst e1 e3
 unfold signs at hd
 rw[List.getElem?_map]at hd
 have e4:z.cps.toList[i]? =some c:=by simpa using e2
 rw[e4]at hd
 cases hd
 exact⟨Same.refl _,[],List.nodup_nil,fun _ h=>(nomatch h),.str _⟩
section
variable{Z:Ent K}{H:Hp}{σ:L2.St}{Q:VK}{E:Ends}
@[simp] noncomputable def anyI(fe:FE):FD:=fun δ=>(fe δ).bind fun p=>(frz p.1 p.2).bind fun q=>match q.1 with
 | .lst xs=>some (xs,q.2)
 | .tup xs=>some (xs,q.2)
 | .str z=>some (signs z,q.2)
 |_=>none
theorem Zwa{fe:FE}{R:It→Hp→Prop}(h:Zht Z (anyI fe) σ H R):iAny K (Zc Z fe) σ H R:=by
 obtain⟨F,δ,own,ds,δ',s,e,k⟩:=h
 obtain⟨⟨rv,δ1⟩,e1,e2⟩:=Option.bind_eq_some_iff.mp e
 obtain⟨⟨d,δ2⟩,e3,e4⟩:=Option.bind_eq_some_iff.mp e2
 refine⟨F,δ,own,rv,δ1,s,e1,fun v H1 F1 own1 sH sF s1 r1=>?_⟩
 obtain⟨F2,sF2,s2,r2⟩:=s1.settleR r1
 obtain⟨F3,own3,sF3,s3,r3⟩:=s2.frzR r2 e3
 dsimp only at e4
 split at e4
 ·cases e4
  cases r3 with
  |lst h r=>exact .inl ⟨_,rfl,⟨_,Zb0 s3.le h⟩,k _ H1 F3 own3 sH (sF.trans (sF2.trans sF3)) s3 (Ziy h r)⟩
 ·cases e4
  cases r3 with
  |tup h r=>exact .inr (.inl ⟨_,rfl,⟨_,Zcj s3.le (Zix h)⟩,k _ H1 F3 own3 sH (sF.trans (sF2.trans sF3)) s3 (Zk5 (Zix h) r)⟩)
 ·cases e4
  cases r3 with
  |str x=>exact .inr (.inr ⟨_,rfl,k _ H1 F3 own3 sH (sF.trans (sF2.trans sF3)) s3 Zi6⟩)
 ·cases e4
@[simp] noncomputable def inS(i j:Str):Bool:=!(Builtin.Str.occurrences j i 0 j.length 1).isEmpty
@[simp] noncomputable def inD:D→D→Option SV
 | .str i,.str j=>some (.fz (.bl (inS i j)))
 |_,_=>none
@[simp] noncomputable def Zqv:D→D→Option SV
 | .str i,.str j=>some (.fz (.bl (!inS i j)))
 |_,_=>none
theorem p_in:Zbg Z (fun x y H Q=>∃i j,x= .str i∧y= .str j∧Q (.bl (!(Builtin.Str.occurrences j i 0 j.length 1).isEmpty)) H) inD:=by
 intro F H σ δ own x y d1 d2 sv Q s r1 r2 e k
 unfold inD at e
 split at e
 ·cases e;exact⟨_,_,r1.str,r2.str,k.fz s (.bl _)⟩
 ·cases e
@[simp] noncomputable def Zh3:List D→Option SV
 | [.str a,.str b]=>if(b.length==0)=false∧a.length≤PySem.sizeLine∧(Txt.split a b).length≤PySem.sizeLine then some (.ol ((Txt.split a b).map D.str))else none
 |_=>none
theorem Zh4{F:Hp}:∀xs:List Str,Reps K F (xs.map D.str) (xs.map V.str)
 | []=>.nil
 |x::r=>.cons (.str x) (Zh4 r)
theorem Zss:Zmr Z Zqu Zh3:=by
 intro F H σ δ own vs ds sv Q s r e k
 unfold Zh3 at e
 split at e
 ·rename_i a b
  split at e
  ·rename_i h
   cases e
   cases r with
   |cons h1 t=>cases t with
    |cons h2 t=>cases t;exact⟨_,_,rfl,a,b,h1.str,by rw[h2.str],h.1,h.2.1,h.2.2,fun p hp=>k.lst s (Zh4 _) hp⟩
  ·cases e
 ·cases e
@[simp] noncomputable def Zue:List D→Option SV
 | [.str a,.str b]=>if(b.length==0)=false∧a.length≤PySem.sizeLine then some (.fz (.tup [.str (Txt.partition a b).1,.str (Txt.partition a b).2.1,.str (Txt.partition a b).2.2]))else none
 |_=>none
@[simp] noncomputable def bools?:List D→Option (List Bool)
 | []=>some []
 | .bl x::r=>(bools? r).bind fun t=>some (x::t)
 |_=>none
theorem Zj1{F:Hp}:∀{ds:List D} {xs:List Bool} {vs:List V},bools? ds=some xs→Reps K F ds vs→vs=xs.map V.bl
 | [],_,_,e,r=>by cases e;cases r;rfl
 |d::ds,_,_,e,r=>by
  cases r with
  |cons h t=>
   unfold bools? at e
   split at e
   ·rename_i e0;cases e0
   ·rename_i x r0 e0
    cases e0
    obtain⟨ys,e1,e2⟩:=Option.bind_eq_some_iff.mp e
    cases e2
    cases h
    rw[Zj1 e1 t];rfl
   ·cases e
@[simp] noncomputable def allD:List D→Option SV
 | [.lst xs]=>(bools? xs).bind fun bs=>some (.fz (.bl (bs.all id)))
 |_=>none
theorem Z0f:Zfe Z (rAll K) allD:=by
 intro F H σ δ own vs ds sv Q s r e k
 unfold allD at e
 split at e
 ·obtain⟨bs,e1,e2⟩:=Option.bind_eq_some_iff.mp e
  cases e2
  cases r with
  |cons h1 t=>
   cases t
   obtain⟨a,vs,rfl,ha,ra⟩:=h1.lst s.le
   rw[Zj1 e1 ra]at ha
   exact⟨a,bs,rfl,ha,k.fz s (.bl _)⟩
 ·cases e
@[simp] noncomputable def Z2l(i:Nat):FS:=fun δ=>match δ[i]? with
 |some (some (.ol _))=>some (.nx (δ.set i (some (.ol []))))
 |_=>none
end
section
variable{X:Cx}{Z:Ent X.K}{a b c:Expr}{fa fb fc:FE}{pos:Pos}{tg:Expr}
theorem Zpp(ha:PE X a (Zc Z fa)):PI X tg a (Zht Z (anyI fa)):=fun pins s σ H R I h=>Zv9 ha pins s σ H R I (Zwa h)
theorem Zm0{apos cpos:Pos}(ha:PE X a (Zc Z fa))(hb:PE X b (Zc Z fb))(hbase:attributeBase a "split" X.env (eval a X.env)=eval a X.env:=by rfl)
  (hfew:((backTo cpos (starEach [b] X.env)).all (fun x=>!x.1)&&(backToKw cpos (keywordEach [] X.env)).all (fun x=>x.1.isSome)&&decide ([b].length+([]:List Keyword).length+(if([]:List Keyword).isEmpty then 0 else 1)<30))=true:=by rfl)
  (hline:(apos.endLine==cpos.line)=true:=by rfl) (hs:starEach [b] X.env=(false,eval b X.env)::starEach [] X.env:=by rfl) (hpl:(backTo cpos (starEach [] X.env)).any (·.1)=false:=by rfl):
  PE X (.Call (.Attribute a "split" apos) [b] [] cpos) (Zc Z (bmF "str" Zh3 fa (Zb fb Zj))):=
 (Zhk PySem.F.plainAttrs_str PySem.F.slot_str_split PySem.F.type_str_split Zpn ha (Zx hb Zbh hs) hbase hfew hline hs hpl).imp fun _ _ _ h=>l_bm Zss h
theorem Z0g{p:Pos}(hm:X.mg "all"=none)(ha:PE X a (Zc Z fa))(hc:X.calm=true:=by rfl)(hg:Gl X "all":=by rfl)(he:starEach [a] X.env=(false,eval a X.env)::starEach [] X.env:=by rfl)(hpl:(backTo pos (starEach [] X.env)).any (·.1)=false:=by rfl):PE X (.Call (.Name "all" p) [a] [] pos) (Zc Z (Zao allD (Zb fa Zj))):=
 Zi3 (Zpo hc) Z0f hm boot_all (Zx ha Zbh he) hg (by decide) (by decide) he hpl
end
end DL
namespace L2
open PySem PySem.Spec PyProof.Rows
open AutoSeq1 (wpAny_loadPart')
section
variable{prog:Program}{w:World}{A:Around}{E:Value→Shared→Prop}{s:Shared}
end
section
variable{X:Cx}{tg:Expr}
noncomputable def IteT(K:PySem.W.Frag)(a:Addr):It:=
 ⟨fun i H=>∃xs x,SqT K H a xs∧xs[i]? =some x,fun i H x H'=>∃p v,x= .ref p∧H p=none∧H'=upd H p (.tup [.int (i:Nat),v])∧∀xs,SqT K H a xs→xs[i]? =some v,fun i H=>∃xs,SqT K H a xs∧xs.length≤i⟩
noncomputable def Z2m(K:PySem.W.Frag)(ta:TA):TI:=fun σ H R=>ta σ H fun vs H1=>∃a xs,vs=[.ref a]∧SqT K H1 a xs∧R (IteT K a) H1
end
end L2
namespace DL
open PySem PySem.Spec PyProof.Rows L2
variable{K:PySem.W.Frag}
section
variable{Z:Ent K}{H:Hp}{σ:L2.St}{Q:VK}
@[simp] noncomputable def Z2n(fd:FD):FD:=fun δ=>(fd δ).bind fun p=>match p.1 with
 | [.tup xs]=>some (Zpi xs,p.2)
 |_=>none
end
section
variable{X:Cx}{Z:Ent X.K}{a:Expr}{fa:FE}{pos:Pos}
@[simp] noncomputable def Z2o(fd:FD):FD:=fun δ=>(fd δ).bind fun p=>match p.1 with
 | [.lst xs]=>some (Zpi xs,p.2)
 | [.tup xs]=>some (Zpi xs,p.2)
 |_=>none
end
end DL
namespace L2
open PySem PySem.Spec PyProof.Rows
variable{X:Cx}
noncomputable def Zqw(K:PySem.W.Frag):V→List V→Hp→VK→Prop:=fun x xs H Q=>∃sep p ys,x= .str sep∧xs=[.ref p]∧(SqL K H p (ys.map V.str)∨SqT K H p (ys.map V.str))∧JoinOk sep ys=true∧Q (.str (Txt.join sep ys)) H
theorem Zpq:MtR X "str.join" (Zqw X.K):=by
 intro pins s σ H x xs v us Q I rx rs h
 obtain⟨sep,p,ys,rfl,rfl,hq,hok,q⟩:=h
 rcases hq with hq|hq
 ·exact Zsn pins s σ H _ _ v us Q I rx rs ⟨sep,p,ys,rfl,rfl,hq,hok,q⟩
 ·obtain⟨t,rfl⟩:=rx
  obtain⟨u,rfl,ru⟩:=Zfw rs
  cases ru
  obtain⟨its,rv,pl,hz⟩:=I.tuple hq
  obtain⟨l,e1,e2⟩:=Zi1 rv
  subst e1 e2
  have hok':=hok
  unfold JoinOk at hok'
  rw[Bool.not_eq_true']at hok'
  obtain⟨o,ho,hc,n,hd⟩:=(show s.heap.IsTuple p (strValues l).toArray from pl)
  exact call_meets F.slot_str_join (typeIs_str _ _ _) F.entry_str_join (F.args_str_join_2 _ _) (meets_str_join_tuple sep t p l hok') ⟨⟨o,n,ho,hc,hd⟩,post_join l ⟨joinFit_length hok',fun t' k=>⟨.str (Txt.join sep (l.map (·.1))),H,I.tok _,⟨_,rfl⟩,q⟩⟩⟩
end L2
namespace DL
open PySem PySem.Spec PyProof.Rows L2
variable{K:PySem.W.Frag}
@[simp] noncomputable def Zh5:List D→Option SV
 | [.str sep,.lst xs]=>(strs? xs).bind fun ys=>if JoinOk sep ys=true then some (.fz (.str (Txt.join sep ys)))else none
 | [.str sep,.tup xs]=>(strs? xs).bind fun ys=>if JoinOk sep ys=true then some (.fz (.str (Txt.join sep ys)))else none
 |_=>none
theorem Zst{Z:Ent K}:Zmr Z (Zqw K) Zh5:=by
 intro F H σ δ own vs ds sv Q s r e k
 unfold Zh5 at e
 split at e
 ·obtain⟨ys,e1,e2⟩:=Option.bind_eq_some_iff.mp e
  split at e2
  ·rename_i hok
   cases e2
   cases r with
   |cons h1 t1=>
    cases t1 with
    |cons h2 t2=>
     cases t2
     obtain⟨a,us,ex,ha,ra⟩:=h2.lst s.le
     rw[Zi2 e1 ra]at ha
     exact⟨_,_,rfl,_,a,ys,h1.str,by rw[ex],.inl ha,hok,k.fz s (.str _)⟩
  ·cases e2
 ·obtain⟨ys,e1,e2⟩:=Option.bind_eq_some_iff.mp e
  split at e2
  ·rename_i hok
   cases e2
   cases r with
   |cons h1 t1=>
    cases t1 with
    |cons h2 t2=>
     cases t2
     obtain⟨a,us,ex,ha,ra⟩:=h2.tup s.le
     rw[Zi2 e1 ra]at ha
     exact⟨_,_,rfl,_,a,ys,h1.str,by rw[ex],.inr ha,hok,k.fz s (.str _)⟩
  ·cases e2
 ·cases e
section
variable{X:Cx}{Z:Ent X.K}{a b:Expr}{fa fb:FE}
theorem Zm1{apos cpos:Pos}(ha:PE X a (Zc Z fa))(hb:PE X b (Zc Z fb))(hbase:attributeBase a "join" X.env (eval a X.env)=eval a X.env:=by rfl)
  (hfew:((backTo cpos (starEach [b] X.env)).all (fun x=>!x.1)&&(backToKw cpos (keywordEach [] X.env)).all (fun x=>x.1.isSome)&&decide ([b].length+([]:List Keyword).length+(if([]:List Keyword).isEmpty then 0 else 1)<30))=true:=by rfl)
  (hline:(apos.endLine==cpos.line)=true:=by rfl) (hs:starEach [b] X.env=(false,eval b X.env)::starEach [] X.env:=by rfl) (hpl:(backTo cpos (starEach [] X.env)).any (·.1)=false:=by rfl):
  PE X (.Call (.Attribute a "join" apos) [b] [] cpos) (Zc Z (bmF "str" Zh5 fa (Zb fb Zj))):=
 (Zhk PySem.F.plainAttrs_str PySem.F.slot_str_join PySem.F.type_str_join Zpq ha (Zx hb Zbh hs) hbase hfew hline hs hpl).imp fun _ _ _ h=>l_bm Zst h
end
end DL
namespace L2
open PySem PySem.Spec PyProof.Rows
variable{X:Cx}
noncomputable def Z3z:R2:=fun x y H Q=>∃a v,x= .ref a∧DGet H a y (some v)∧Q v H
noncomputable def rDIn:R2:=fun y x H Q=>∃a o,x= .ref a∧DGet H a y o∧Q (.bl o.isSome) H
noncomputable def Z0h:R2:=fun y x H Q=>∃a o,x= .ref a∧DGet H a y o∧Q (.bl (!o.isSome)) H
end L2
namespace DL
open PySem PySem.Spec PyProof.Rows L2
variable{K:PySem.W.Frag}
@[simp] noncomputable def D.key?:D→Option Key
 | .int i=>some (.inl i)
 | .str x=>some (.inr x)
 |_=>none
@[simp] noncomputable def keys?:List D→Option (List Key)
 | []=>some []
 |d::r=>d.key?.bind fun k=>(keys? r).bind fun t=>some (k::t)
section
variable{κ:Type}[DecidableEq κ]
@[simp] noncomputable def look(ks:List κ)(vs:List D)(k:κ):Option D:=match ks,vs with
 |a::ks,v::vs=>if a=k then some v else look ks vs k
 |_,_=>none
@[simp] noncomputable def putA(ks:List κ)(vs:List D)(k:κ)(v:D):List κ×List D:=
 if k∈ks then(ks,(ks.zip vs).map fun p=>if p.1=k then v else p.2)else(ks++[k],vs++[v])
end
@[simp] noncomputable def getO:D→D→Option (Option D)
 | .dK ks vs,d=>d.key?.bind fun k=>some (look ks vs k)
 | .dT ks vs,.tup xs=>(keys? xs).bind fun k=>some (look ks vs k)
 |_,_=>none
section
variable{Z:Ent K}
@[simp] noncomputable def Z0i(d1 d2:D):Option SV:=(getO d1 d2).bind fun o=>o.bind fun d=>some (.fz d)
@[simp] noncomputable def inDd(d1 d2:D):Option SV:=(getO d2 d1).bind fun o=>some (.fz (.bl o.isSome))
@[simp] noncomputable def Zsu(d1 d2:D):Option SV:=(getO d2 d1).bind fun o=>some (.fz (.bl (!o.isSome)))
@[simp] noncomputable def D.isD:D→Bool
 | .dK _ _=>true| .dT _ _=>true|_=>false
@[simp] noncomputable def ixX(d1 d2:D):Option SV:=if d1.isD=true then Z0i d1 d2 else ixD d1 d2
@[simp] noncomputable def inX(d1 d2:D):Option SV:=if d2.isD=true then inDd d1 d2 else inD d1 d2
@[simp] noncomputable def Zwb(d1 d2:D):Option SV:=if d2.isD=true then Zsu d1 d2 else Zqv d1 d2
end
section
variable{X:Cx}{Z:Ent X.K}{a b c:Expr}{fa fb fc:FE}{pos:Pos}
end
end DL
namespace L2
open PySem PySem.Spec PyProof.Rows
variable{X:Cx}
noncomputable def Z2p:V→List V→Hp→VK→Prop:=fun x xs H Q=>∃a,x= .ref a∧((∃y o,xs=[y]∧DGet H a y o∧Q (o.getD .non) H)∨(∃y z o,xs=[y,z]∧DGet H a y o∧Q (o.getD z) H))
end L2
namespace DL
open PySem PySem.Spec PyProof.Rows L2
variable{K:PySem.W.Frag}
section
variable{Z:Ent K}{H:Hp}{σ:L2.St}{Q:VK}{E:Ends}
@[simp] noncomputable def Z30:FE:=fun δ=>some (.tmp (.oK [] []),δ)
@[simp] noncomputable def Z31:FE:=fun δ=>some (.tmp (.oT [] []),δ)
@[simp] noncomputable def SV.isOD:Option (Option SV)→Bool
 |some (some (.oK _ _))=>true
 |some (some (.oT _ _))=>true
 |_=>false
@[simp] noncomputable def putS(kd d:D):Option (Option SV)→Option SV
 |some (some (.oK ks vs))=>kd.key?.bind fun k=>if vs.length<PySem.sizeLine then some (.oK (putA ks vs k d).1 (putA ks vs k d).2)else none
 |some (some (.oT ks vs))=>match kd with
  | .tup xs=>(keys? xs).bind fun k=>if vs.length<PySem.sizeLine then some (.oT (putA ks vs k d).1 (putA ks vs k d).2)else none
  |_=>none
 |_=>none
@[simp] noncomputable def putF(i:Nat)(fk fv:FE):FS:=fun δ=>(fv δ).bind fun p=>(frz p.1 p.2).bind fun q=>if SV.isOD (q.2[i]?)=true then(fk q.2).bind fun r=>(rdv r.1 r.2).bind fun kd=>(putS kd q.1 (r.2[i]?)).bind fun sv=>some (.nx (r.2.set i (some sv)))else none
@[simp] noncomputable def bmDF(T:String)(g:D→List D→Option SV)(fo:FE)(fd:FD):FE:=fun δ=>(fo δ).bind fun p=>(rdv p.1 p.2).bind fun d0=>if tyOk T d0=true then(fd p.2).bind fun q=>(rdv p.1 q.2).bind fun d1=>(g d1 q.1).bind fun sv=>some (.tmp sv,q.2)else none
noncomputable def Z32(Z:Ent K)(r:V→List V→Hp→VK→Prop)(g:D→List D→Option SV):Prop:=
 ∀(F H:Hp) (σ:L2.St) (δ:DSt) (own:Nat→Zp) (x:V) (d:D) (vs:List V) (ds:List D) (sv:SV) (Q:VK),SR Z F H σ δ own→RepN K F H d x→Reps K F ds vs→g d ds=some sv→Fin Z F H σ δ own sv Q→r x vs H Q
@[simp] noncomputable def Z2q:D→List D→Option SV
 |d,[y]=>(getO d y).bind fun o=>some (.fz (o.getD .non))
 |d,[y,z]=>(getO d y).bind fun o=>some (.fz (o.getD z))
 |_,_=>none
end
section
variable{X:Cx}{Z:Ent X.K}{a b c:Expr}{fa fb fc:FE}{pos:Pos}
end
end DL
namespace L2
open PySem PySem.Spec PyProof.Rows
variable{X:Cx}
noncomputable def Z0j:List V→Hp→VK→Prop:=fun xs H Q=>∃a kvs,xs=[.ref a]∧RdK H a kvs∧∀p ep,H p=none→Q (.ref p) (upd H p (.dK kvs ep))
end L2
namespace DL
open PySem PySem.Spec PyProof.Rows L2
variable{K:PySem.W.Frag}
section
variable{Z:Ent K}{H:Hp}{σ:L2.St}{Q:VK}{E:Ends}
@[simp] noncomputable def Z33:List D→Option SV
 | [.dK ks vs]=>some (.oK ks vs)
 |_=>none
@[simp] noncomputable def Z2r(k:Str)(i:Nat):FE:=fun δ=>match δ[i]? with
 |some (some sv)=>some (.tmp (.oK [.inr k] [sv.toD]),δ.set i (some (.fz sv.toD)))
 |_=>none
@[simp] noncomputable def Zwc(ks:List Key)(vs:List D)(k:Key):List Key×List D:=(((ks.zip vs).filter fun p=>decide (p.1≠k)).map (·.1),((ks.zip vs).filter fun p=>decide (p.1≠k)).map (·.2))
@[simp] noncomputable def popF(i:Nat)(fk:FE):FS:=fun δ=>match δ[i]? with
 |some (some (.oK _ _))=>(fk δ).bind fun r=>(rdv r.1 r.2).bind fun kd=>kd.key?.bind fun k=>match r.2[i]? with
  |some (some (.oK ks vs))=>if(look ks vs k).isSome=true then some (.nx (r.2.set i (some (.oK (Zwc ks vs k).1 (Zwc ks vs k).2))))else none
  |_=>none
 |_=>none
end
section
variable{X:Cx}{Z:Ent X.K}{a b c:Expr}{fa fb fc:FE}{pos:Pos}
end
end DL
namespace L2
open PySem PySem.Spec PyProof.Rows
section
variable{prog:Program}{w:World}{A:Around}{E:Value→Shared→Prop}{s:Shared}
end
noncomputable def Z34:Option Key→Value→Bool
 |none,.none=>true
 |none,_=>false
 |some k,v=>Zoq k v
variable{X:Cx}
noncomputable def Z2s(neg:Bool):R2:=fun y x H Q=>∃a kvs,y= .non∧x= .ref a∧RdK H a kvs∧Q (.bl neg) H
end L2
namespace L2
open PySem PySem.Spec PyProof.Rows
noncomputable def Zwd(es:Array DictEntry)(kvs:List (Str×Value)):Prop:=es.size=kvs.length∧∀(i:Nat) (p:Str×Value),kvs[i]? =some p→∃e t,es[i]? =some e∧e.key= .str p.1 t∧e.val=p.2
noncomputable def Z35(h:Heap)(a:Addr)(kvs:List (Str×Value)):Prop:=∃o es ep,h.get? a=some o∧o.ExactDict∧o.data= .dict es ep∧Zwd es kvs
noncomputable def place(kvs:List (Str×Value))(x:Str):Option Nat:=kvs.findIdx? fun p=>decide (p.1=x)
section
variable{prog:Program}{w:World}{A:Around}{E:Value→Shared→Prop}{s:Shared}
end
inductive SHits(A:Around)(s:Shared)(kb:List (Str×Value)):List (Str×Value)→Bool→Prop where
 |nil:SHits A s kb [] true
 |miss {k:Str} {v:Value} {r:List (Str×Value)}:place kb k=none→SHits A s kb ((k,v)::r) false
 |hit {k:Str} {v:Value} {r:List (Str×Value)} {j:Nat} {p:Str×Value} {e b:Bool}:place kb k=some j→kb[j]? =some p→SeqAt.EqAt A s v p.2 e→SHits A s kb r b→SHits A s kb ((k,v)::r) (e&&b)
section
variable{prog:Program}{w:World}{A:Around}{E:Value→Shared→Prop}{s:Shared}
end
section
variable{A:Around}{s:Shared}{a b:Addr}{ka kb:List (Str×Value)}{r:Bool}
end
end L2
namespace DL
open PySem PySem.Spec PyProof.Rows L2
variable{K:PySem.W.Frag}
@[simp] noncomputable def strK?:List Key→Option (List Str)
 | []=>some []
 | .inr x::r=>(strK? r).bind fun t=>some (x::t)
 |_=>none
@[simp] noncomputable def eqKV(f:D→D→Option Bool)(ys:List Str)(us:List D):List Str→List D→Option Bool
 |x::xs,v::vs=>match look ys us x with
  |none=>some false
  |some u=>(f v u).bind fun b=>(eqKV f ys us xs vs).bind fun c=>some (b&&c)
 |_,_=>some true
@[simp] noncomputable def Zsv(f:D→D→Option Bool):D→D→Option Bool
 | .dK ks vs,.dK ks' vs'=>(strK? ks).bind fun xs=>(strK? ks').bind fun ys=>if xs.length=ys.length then eqKV f ys vs' xs vs else some false
 |d1,d2=>Zfj f d1 d2
@[simp] noncomputable def eqM:Nat→D→D→Option Bool
 |0=>fun _ _=>none
 |n+1=>Zsv (eqM n)
section
variable{X:Cx}{pins:List (Addr×Obj)}{σ:L2.St}{F H:Hp}{s:Shared}
end
end DL
namespace DL
open PySem PySem.Spec PyProof.Rows L2
variable{K:PySem.W.Frag}
section
variable{X:Cx}{pins:List (Addr×Obj)}{σ:L2.St}{F H:Hp}{s:Shared}
noncomputable def rEqM(K:PySem.W.Frag)(neg:Bool):R2:=fun x y H Q=>∃F d1 d2 b,Same F H∧RepN K F H d1 x∧RepN K F H d2 y∧eqM 48 d1 d2=some b∧(Zav x=false∨Zav y=false)∧Q (.bl (if neg then !b else b)) H
end
end DL
namespace DL
open PySem PySem.Spec PyProof.Rows L2
variable{K:PySem.W.Frag}
@[simp] noncomputable def eqY(d1 d2:D):Option SV:=if d1.isFlat=true∧d2.isFlat=true then eqD d1 d2 else(eqM 48 d1 d2).bind fun b=>some (.fz (.bl b))
@[simp] noncomputable def neY(d1 d2:D):Option SV:=if d1.isFlat=true∧d2.isFlat=true then neD d1 d2 else(eqM 48 d1 d2).bind fun b=>some (.fz (.bl !b))
@[simp] noncomputable def inY(d1 d2:D):Option SV:=match d1,d2 with
 | .non,.dK _ _=>some (.fz (.bl false))
 |_,_=>inX d1 d2
@[simp] noncomputable def Zwe(d1 d2:D):Option SV:=match d1,d2 with
 | .non,.dK _ _=>some (.fz (.bl true))
 |_,_=>Zwb d1 d2
section
variable{Z:Ent K}
end
section
variable{X:Cx}{Z:Ent X.K}{a b c:Expr}{fa fb fc:FE}{pos:Pos}
end
end DL
namespace DL
open PySem PySem.Spec PyProof.Rows L2
variable{K:PySem.W.Frag}
theorem SR.changeT{Z:Ent K}{F H:Hp}{σ:L2.St}{δ:DSt}{own:Nat→Zp}{i:Nat}{sv sv' svT:SV}{a:Addr}{o o':HO}{v vT:V}{ns' nsT:Zp}(s:SR Z F H σ δ own)(t:TmpOk Z F H own svT vT nsT)(e:δ[i]? =some (some sv))(hv:σ[i]? =some (some v))
  (ha:(a,o)∈own i) (hs:Shape K F sv' v ns') (hns:∀p∈ns',p=(a,o')∨(p∈own i∧p.1≠a)∨p∈nsT) (nd:(adr ns').Nodup):SR Z F (upd H a o') σ (δ.set i (some sv')) (put own i ns'):=by
 obtain⟨fa,ha0,hHa⟩:=s.ok i (a,o) ha
 have hi:i<δ.length:=(List.getElem?_eq_some_iff.mp e).1
 refine⟨fun b u eb=>?_,s.fro,fun b u eb=>?_,by rw[List.length_set];exact s.len,fun j sw ej=>?_,fun j=>?_,fun j p hp=>?_,fun j k p q hjk hp hq=>?_⟩
 ·rw[Zy fun z=>by rw[z]at eb;rw[fa]at eb;cases eb];exact s.le b u eb
 ·rw[Zy fun z=>by rw[z]at eb;rw[ha0]at eb;cases eb];exact s.old b u eb
 ·by_cases hj:j=i
  ·subst hj
   rw[List.getElem?_set_self hi]at ej
   cases ej
   rw[Zo]
   exact⟨v,hv,hs⟩
  ·rw[List.getElem?_set_ne (Ne.symm hj)]at ej
   rw[Zu hj]
   exact s.at' j sw ej
 ·by_cases hj:j=i
  ·subst hj;rw[Zo];exact nd
  ·rw[Zu hj];exact s.nod j
 ·by_cases hj:j=i
  ·subst hj
   rw[Zo]at hp
   rcases hns p hp with z|⟨z,ne⟩|z
   ·subst z;exact⟨fa,ha0,Zab⟩
   ·obtain⟨x,y,w⟩:=s.ok j p z
    exact⟨x,y,by rw[Zy ne];exact w⟩
   ·obtain⟨x,y,w⟩:=t.ok p z
    exact⟨x,y,by rw[Zy (t.sep j p (a,o) z ha)];exact w⟩
  ·rw[Zu hj]at hp
   obtain⟨x,y,w⟩:=s.ok j p hp
   exact⟨x,y,by rw[Zy (s.sep j i p (a,o) hj hp ha)];exact w⟩
 ·have far:∀(l:Nat) (r q:Addr×HO),l≠i→r∈ns'→q∈own l→r.1≠q.1:=fun l r q hl hr hq=>by
   rcases hns r hr with z|⟨z,_⟩|z
   ·subst z;exact s.sep i l (a,o) q (Ne.symm hl) ha hq
   ·exact s.sep i l r q (Ne.symm hl) z hq
   ·exact t.sep l r q z hq
  by_cases hj:j=i
  ·subst hj
   rw[Zo]at hp
   rw[Zu (Ne.symm hjk)]at hq
   exact far k p q (Ne.symm hjk) hp hq
  ·by_cases hk:k=i
   ·subst hk
    rw[Zo]at hq
    rw[Zu hj]at hp
    exact fun z=>far j q p hj hq hp z.symm
   ·rw[Zu hj]at hp
    rw[Zu hk]at hq
    exact s.sep j k p q hjk hp hq
theorem Kids.snoc{F:Hp}:∀{xss:List (List D)} {ws:List V} {ns:Zp} {xs:List D} {b:Addr} {vs:List V},Kids K F xss ws ns→Reps K F xs vs→Kids K F (xss++[xs]) (ws++[.ref b]) (ns++[(b,.lst vs)])
 |_,_,_,_,_,_,.nil,r=>.cons r .nil
 |_,_,_,_,_,_,.cons h t,r=>.cons h (t.snoc r)
section
variable{Z:Ent K}{H:Hp}{σ:L2.St}{Q:VK}{E:Ends}
@[simp] noncomputable def Z36:FE:=fun δ=>some (.tmp (.oN [] []),δ)
@[simp] noncomputable def Z37(i j:Nat):FS:=fun δ=>match δ[i]?,δ[j]? with
 |some (some (.oN ks xss)),some (some (.fz kd))=>kd.key?.bind fun k=>if(ks.any fun x=>decide (x=k))=false∧xss.length<PySem.sizeLine then some (.nx (δ.set i (some (.oN (ks++[k]) (xss++[[]])))))else none
 |_,_=>none
theorem Kids.length{F:Hp}:∀{xss:List (List D)} {ws:List V} {ns:Zp},Kids K F xss ws ns→xss.length=ws.length
 |_,_,_,.nil=>rfl
 |_,_,_,.cons _ t=>by rw[List.length_cons,List.length_cons,t.length]
end
theorem Kids.app{F:Hp}:∀{xss:List (List D)} {ws:List V} {ns:Zp} {p:Nat} {b:Addr},Kids K F xss ws ns→ws[p]? =some (.ref b)→(adr ns).Nodup→
  ∃xs vs,xss[p]? =some xs∧(b,HO.lst vs)∈ns∧Reps K F xs vs∧∀{d:D} {v:V},Rep K F d v→∃ns',Kids K F (xss.set p (xs++[d])) ws ns'∧adr ns'=adr ns∧∀q∈ns',q=(b,HO.lst (vs++[v]))∨(q∈ns∧q.1≠b)
 |_,_,_,_,_,.nil,e,_=>by simp at e
 |_,_,_,0,b,@Kids.cons _ _ xs xss b' vs ws ns r t,e,nd=>by
  have e':b'=b:=by simpa using e
  subst e'
  obtain⟨n1,n2⟩:=List.nodup_cons.mp nd
  refine⟨xs,vs,rfl,List.mem_cons_self,r,fun{d v} hd=>⟨(b',.lst (vs++[v]))::ns,.cons (r.snoc hd) t,rfl,fun q hq=>?_⟩⟩
  rcases List.mem_cons.mp hq with z|z
  ·exact .inl z
  ·exact .inr ⟨List.mem_cons_of_mem _ z,fun w=>n1 (List.mem_map.mpr ⟨q,z,w⟩)⟩
 |_,_,_,p+1,b,@Kids.cons _ _ xs0 xss b' vs0 ws ns r t,e,nd=>by
  obtain⟨n1,n2⟩:=List.nodup_cons.mp nd
  obtain⟨xs,vs,h1,h2,h3,h4⟩:=Kids.app (p:=p) (b:=b) t (by simpa using e) n2
  refine⟨xs,vs,by simpa using h1,List.mem_cons_of_mem _ h2,h3,fun{d v} hd=>?_⟩
  obtain⟨ns',k1,k2,k3⟩:=h4 hd
  refine⟨(b',.lst vs0)::ns',by rw[List.set_cons_succ];exact .cons r k1,by show b'::adr ns'=b'::adr ns;rw[k2],fun q hq=>?_⟩
  rcases List.mem_cons.mp hq with z|z
  ·refine .inr ⟨by rw[z];exact List.mem_cons_self,fun w=>n1 ?_⟩
   rw[z]at w
   exact List.mem_map.mpr ⟨_,h2,w.symm⟩
  ·rcases k3 q z with w|⟨w,w2⟩
   ·exact .inl w
   ·exact .inr ⟨List.mem_cons_of_mem _ w,w2⟩
@[simp] noncomputable def Zqx:List Key→Key→Option Nat
 | [],_=>none
 |a::r,k=>if a=k then some 0 else(Zqx r k).map (· +1)
section
variable{Z:Ent K}{H:Hp}{σ:L2.St}{Q:VK}{E:Ends}
@[simp] noncomputable def Z38(i j:Nat)(fe:FE):FS:=fun δ=>match δ[i]?,δ[j]? with
 |some (some (.oN ks _)),some (some (.fz kd))=>kd.key?.bind fun k=>(Zqx ks k).bind fun p=>(fe δ).bind fun q=>(frz q.1 q.2).bind fun r=>match r.2[i]? with
  |some (some (.oN ks' xss))=>if ks'=ks then(xss[p]?).bind fun xs=>if xs.length<PySem.sizeLine then some (.nx (r.2.set i (some (.oN ks (xss.set p (xs++[r.1]))))))else none else none
  |_=>none
 |_,_=>none
end
end DL
namespace DL
open PySem PySem.Spec PyProof.Rows L2
variable{K:PySem.W.Frag}
section
variable{Z:Ent K}{H:Hp}{σ:L2.St}{E:Ends}
@[simp] noncomputable def retZ(fe:FE):FS:=fun δ=>(fe δ).bind fun p=>(frz p.1 p.2).bind fun q=>some (.rt (.fz q.1))
end
section
variable{X:Cx}{Z:Ent X.K}{a b c:Expr}{fa fb fc:FE}{pos:Pos}
end
end DL
namespace L2
open PySem PySem.Spec PyProof.Rows
variable{X:Cx}
noncomputable def Z0k(K:PySem.W.Frag):V→List V→Hp→VK→Prop:=fun x xs H Q=>∃p ys y j,x= .ref p∧xs=[y]∧SqL K H p ys∧Zav y=true∧ys.all Zav=true∧(ys.findIdx? fun z=>eqV z y)=some j∧Q (.int (j:Nat)) H
noncomputable def Z0l:V→List V→Hp→VK→Prop:=fun x xs H Q=>∃a b i rest,x= .str a∧xs=[.str b]∧Builtin.Str.occurrences a b 0 a.length 1=i::rest∧Q (.int (i:Nat)) H
noncomputable def Z0m:V→List V→Hp→VK→Prop:=fun x xs H Q=>∃a b,x= .str a∧xs=[.str b]∧a.length≤sizeLine∧Q (.str (Txt.rstripChars a b)) H
noncomputable def Zwf:R2:=fun x y H Q=>∃a k,x= .str a∧y= .int k∧MulOk a k∧Q (.str (Txt.mul a k)) H
theorem Zsw:OpR X (binaryOp .Mult) Zwf:=by
 intro pins s σ H x y v u Q I rx ry h
 obtain⟨a,k,rfl,rfl,hm,q⟩:=h
 obtain⟨t,rfl⟩:=rx
 obtain⟨t',rfl⟩:=ry
 exact SB.mul hm fun t' k=>⟨.str _,H,I.tok _,⟨_,rfl⟩,q⟩
end L2
namespace DL
open PySem PySem.Spec PyProof.Rows L2
variable{K:PySem.W.Frag}
@[simp] noncomputable def D.fv:D→V
 | .bl b=>.bl b
 | .int i=>.int i
 | .str x=>.str x
 |_=>.non
theorem Zsx{F H:Hp}{d:D}{x:V}(r:RepN K F H d x)(h:d.isFlat=true):x=d.fv∧Zav x=true:=by
 cases d with
 |non=>rw[r.non];exact⟨rfl,rfl⟩
 |bl b=>rw[r.bl];exact⟨rfl,rfl⟩
 |int i=>rw[r.int];exact⟨rfl,rfl⟩
 |str y=>rw[r.str];exact⟨rfl,rfl⟩
 |_=>cases h
theorem Zm2{F:Hp}:∀{ds:List D} {vs:List V},Reps K F ds vs→ds.all D.isFlat=true→vs=ds.map D.fv∧vs.all Zav=true
 |_,_,.nil,_=>⟨rfl,rfl⟩
 |_,_,.cons h t,e=>by
  rw[List.all_cons,Bool.and_eq_true]at e
  obtain⟨a1,a2⟩:=Zsx (H:=F) (RepN.of h) e.1
  obtain⟨b1,b2⟩:=Zm2 t e.2
  refine⟨by rw[List.map_cons,←a1,←b1],by rw[List.all_cons,a2,b2];rfl⟩
noncomputable def eqFl(y x:D):Bool:=eqV y.fv x.fv
@[simp] theorem Zpr(a b:Str):eqFl (.str a) (.str b)=decide (a=b):=by
 show(a==b)=decide (a=b)
 by_cases h:a=b
 ·subst h;simp
 ·rw[decide_eq_false h];exact beq_eq_false_iff_ne.mpr h
@[simp] theorem Z0n(a b:Bool):eqFl (.bl a) (.bl b)=decide (a=b):=by cases a<;> cases b<;> rfl
@[simp] theorem Zyy:eqFl .non .non=true:=rfl
@[simp] theorem Z0o(a:Str):eqFl (.str a) .non=false:=rfl
noncomputable def inFl(x:D)(xs:List D):Bool:=xs.any fun y=>eqFl y x
theorem Zsy{d:D}{ds:List D}:inV d.fv (ds.map D.fv)=inFl d ds:=by
 unfold inV inFl
 rw[List.any_map];rfl
noncomputable def D.seq?:D→Option (List D)
 | .lst xs=>some xs
 | .tup xs=>some xs
 |_=>none
@[simp] theorem Z0p(xs:List D):D.seq? (.lst xs)=some xs:=rfl
@[simp] theorem Z0q(xs:List D):D.seq? (.tup xs)=some xs:=rfl
@[simp] theorem Z0r(x:Str):D.seq? (.str x)=none:=rfl
@[simp] theorem Z2t(ks:List Key)(vs:List D):D.seq? (.dK ks vs)=none:=rfl
@[simp] theorem Z2u(ks:List (List Key))(vs:List D):D.seq? (.dT ks vs)=none:=rfl
@[simp] noncomputable def inZ(d1 d2:D):Option SV:=match d2.seq? with
 |some xs=>if d1.isFlat=true∧xs.all D.isFlat=true then some (.fz (.bl (inFl d1 xs)))else none
 |none=>inY d1 d2
@[simp] noncomputable def Z2v(d1 d2:D):Option SV:=match d2.seq? with
 |some xs=>if d1.isFlat=true∧xs.all D.isFlat=true then some (.fz (.bl (!inFl d1 xs)))else none
 |none=>Zwe d1 d2
section
variable{Z:Ent K}{H:Hp}{σ:L2.St}{Q:VK}{E:Ends}
theorem Zwg{F:Hp}{d:D}{x:V}{xs:List D}(le:Same F H)(r:RepN K F H d x)(h:d.seq? =some xs):∃a vs,x= .ref a∧(SqL K H a vs∨SqT K H a vs)∧Reps K F xs vs:=by
 cases d with
 |lst ys=>cases h;obtain⟨a,vs,e,q,rr⟩:=r.lst le;exact⟨a,vs,e,.inl q,rr⟩
 |tup ys=>cases h;obtain⟨a,vs,e,q,rr⟩:=r.tup le;exact⟨a,vs,e,.inr q,rr⟩
 |_=>cases h
@[simp] noncomputable def Z2w:List D→Option SV
 | [.lst xs,x]=>if x.isFlat=true∧xs.all D.isFlat=true then(xs.findIdx? fun y=>eqFl y x).bind fun j=>some (.fz (.int (j:Nat)))else none
 |_=>none
@[simp] noncomputable def Z0s:List D→Option SV
 | [.str a,.str b]=>match Builtin.Str.occurrences a b 0 a.length 1 with
  |i::_=>some (.fz (.int (i:Nat)))
  | []=>none
 |_=>none
@[simp] noncomputable def Z0t:List D→Option SV
 | [.str a,.str b]=>if a.length≤PySem.sizeLine then some (.fz (.str (Txt.rstripChars a b)))else none
 |_=>none
open Classical in
noncomputable def mulS(a:Str)(k:Int):Option SV:=if MulOk a k then some (.fz (.str (Txt.mul a k)))else none
theorem Zfk{a:Str}{k:Int}(h:MulOk a k):mulS a k=some (.fz (.str (Txt.mul a k))):=by unfold mulS;rw[if_pos h]
theorem Zsz{a:Str}{k:Int}{sv:SV}(h:mulS a k=some sv):MulOk a k∧sv= .fz (.str (Txt.mul a k)):=by
 unfold mulS at h
 split at h
 ·rename_i hm;cases h;exact⟨hm,rfl⟩
 ·cases h
noncomputable def Zwh(i j:Int):Prop:=cMul i j=true
open Classical in
noncomputable def mulI(i j:Int):Option SV:=if Zwh i j then some (.fz (.int (i*j)))else none
theorem Zs0{i j:Int}{sv:SV}(h:mulI i j=some sv):mulD (.int i) (.int j)=some sv:=by
 unfold mulI at h
 split at h
 ·rename_i hc
  cases h
  unfold Zwh at hc
  simp[hc]
 ·cases h
noncomputable def mulZ:D→D→Option SV
 | .str a,.int k=>mulS a k
 | .int i,.int j=>mulI i j
 |_,_=>none
@[simp] theorem Z0u(a:Str)(k:Int):mulZ (.str a) (.int k)=mulS a k:=rfl
@[simp] theorem Z0v(i j:Int):mulZ (.int i) (.int j)=mulI i j:=rfl
theorem Zwi:Zbg Z (fun x y H Q=>rI CMul (fun i j=>V.int (i*j)) x y H Q∨Zwf x y H Q) mulZ:=by
 intro F H σ δ own x y d1 d2 sv Q s r1 r2 e k
 unfold mulZ at e
 split at e
 ·obtain⟨hm,rfl⟩:=Zsz e
  exact .inr ⟨_,_,r1.str,r2.int,hm,k.fz s (.str _)⟩
 ·exact .inl (Zzy F H σ δ own x y _ _ sv Q s r1 r2 (Zs0 e) k)
 ·cases e
@[simp] noncomputable def strD:List D→Option SV
 | [.int i]=>if i.natAbs.log2<1920 then some (.fz (.str (toString i)))else none
 |_=>none
theorem Zwj:Zfe Z (fun xs H Q=>∃i:Int,xs=[.int i]∧i.natAbs.log2<1920∧Q (.str (toString i)) H) strD:=by
 intro F H σ δ own vs ds sv Q s r e k
 unfold strD at e
 split at e
 ·split at e
  ·rename_i hm
   cases e
   cases r with
   |cons h1 t=>cases t;exact⟨_,by rw[h1.int],hm,k.fz s (.str _)⟩
  ·cases e
 ·cases e
@[simp] noncomputable def Z0w(kd d:D):Option (Option SV)→Option SV
 |some (some (.ol xs))=>match kd with
  | .int i=>(ixN xs.length i).bind fun j=>some (.ol (xs.set j d))
  |_=>none
 |_=>none
@[simp] noncomputable def SV.isOL:Option (Option SV)→Bool
 |some (some (.ol _))=>true
 |_=>false
@[simp] noncomputable def Z39(i:Nat)(fk fv:FE):FS:=fun δ=>(fv δ).bind fun p=>(frz p.1 p.2).bind fun q=>if SV.isOL (q.2[i]?)=true then(fk q.2).bind fun r=>(rdv r.1 r.2).bind fun kd=>(Z0w kd q.1 (r.2[i]?)).bind fun sv=>some (.nx (r.2.set i (some sv)))else none
@[simp] noncomputable def SV.ol?:RV→Option (List D)
 | .tmp (.ol ys)=>some ys
 |_=>none
@[simp] noncomputable def extF(i:Nat)(fe:FE):FS:=fun δ=>match δ[i]? with
 |some (some (.ol _))=>(fe δ).bind fun p=>(SV.ol? p.1).bind fun ys=>match p.2[i]? with
  |some (some (.ol xs))=>if xs.length+ys.length≤PySem.sizeLine then some (.nx (p.2.set i (some (.ol (xs++ys)))))else none
  |_=>none
 |_=>none
end
section
variable{X:Cx}{Z:Ent X.K}{a b c:Expr}{fa fb fc:FE}{pos:Pos}
theorem Zfl(ha:PE X a (Zc Z fa))(hb:PE X b (Zc Z fb)):PE X (.BinOp a .Mult b pos) (Zc Z (binF mulZ fa fb)):=Zk6 (Zu3.or Zsw) Zwi ha hb
theorem Zqy{p:Pos}(hm:X.mg "str"=none)(ha:PE X a (Zc Z fa))(hg:Gl X "str":=by rfl)(he:starEach [a] X.env=(false,eval a X.env)::starEach [] X.env:=by rfl)(hpl:(backTo pos (starEach [] X.env)).any (·.1)=false:=by rfl):PE X (.Call (.Name "str" p) [a] [] pos) (Zc Z (Zao strD (Zb fa Zj))):=
 Zi4 Zhb Zwj hm boot_str (Zx ha Zbh he) hg (by decide) (by decide) he hpl
end
end DL
namespace DL
open PySem PySem.Spec PyProof.Rows L2
end DL
namespace DL
open PySem PySem.Spec PyProof.Rows L2
variable{K:PySem.W.Frag}
section
variable{Z:Ent K}{H:Hp}{σ:L2.St}{Q:Bool→Hp→Prop}
@[simp] noncomputable def Z4a(f:FT):FT:=fun δ=>(f δ).bind fun p=>some (p.1,δ)
end
section
variable{X:Cx}{Z:Ent X.K}{a:Expr}{ft:FT}
end
end DL
namespace DL
open PySem PySem.Spec PyProof.Rows L2
variable{K:PySem.W.Frag}
theorem Reps.rep{F:Hp}{ds:List D}{vs:List V}(r:Reps K F ds vs):∀n:Nat,Reps K F (List.replicate n ds).flatten (List.replicate n vs).flatten
 |0=>.nil
 |n+1=>by
  rw[List.replicate_succ,List.replicate_succ,List.flatten_cons,List.flatten_cons]
  exact r.append (Reps.rep r n)
noncomputable def repP(n:Nat)(k:Int):Prop:=-(2^63)≤k∧k<2^63∧n*k.toNat≤PySem.sizeLine
section
variable{Z:Ent K}{H:Hp}{σ:L2.St}{Q:VK}
open Classical in
noncomputable def repI(xs:List D):D→Option SV
 | .int k=>if repP xs.length k then some (.ol (List.replicate k.toNat xs).flatten)else none
 |_=>none
@[simp] theorem Zyz{xs:List D}{k:Int}(h:repP xs.length k):repI xs (.int k)=some (.ol (List.replicate k.toNat xs).flatten):=by
 unfold repI;dsimp only;rw[if_pos h]
@[simp] noncomputable def repF(fa fb:FE):FE:=fun δ=>(fa δ).bind fun p=>(SV.ol? p.1).bind fun xs=>(fb p.2).bind fun q=>(rdv q.1 q.2).bind fun d=>(repI xs d).bind fun sv=>some (.tmp sv,q.2)
end
section
variable{X:Cx}{Z:Ent X.K}{a b:Expr}{fa fb:FE}{pos:Pos}
end
end DL
namespace DL
open PySem PySem.Spec PyProof.Rows L2
variable{K:PySem.W.Frag}
section
variable{Z:Ent K}
@[simp] noncomputable def slT:D→Option Int→Option Int→Option SV
 | .tup xs,lo,hi=>if¬(HT.sIx xs.length 0 lo=0∧HT.sIx xs.length xs.length hi=xs.length)then some (.fz (.tup (cutD xs lo hi)))else none
 |_,_,_=>none
end
section
variable{X:Cx}{Z:Ent X.K}{a:Expr}{fa:FE}{pos:Pos}
end
end DL
namespace DL
open PySem L2
variable{K:PySem.W.Frag}
inductive RX where
 |v (rv:RV) (δ:DSt)|x (e:Exn) (δ:DSt)
inductive RL(α:Type)where
 |v (xs:List α) (δ:DSt)|x (e:Exn) (δ:DSt)
noncomputable abbrev FX:=DSt→Option RX
noncomputable abbrev FAX:=DSt→Option (RL RV)
noncomputable abbrev FDX:=DSt→Option (RL D)
noncomputable def XOk(Z:Ent K)(F:Hp)(σ:St)(e:Exn)(δ:DSt):Prop:=∀H' F' own' cls od,Same F F'→SR Z F' H' σ δ own'→Zjt K F' e cls od→Z.x cls od σ H'
theorem XOk.mono{Z:Ent K}{F F':Hp}{σ:St}{e:Exn}{δ:DSt}(s:Same F F')(h:XOk Z F σ e δ):XOk Z F' σ e δ:=fun H2 F2 own cls od a=>h H2 F2 own cls od (s.trans a)
noncomputable def Zc4(Z:Ent K)(f:FX):TE:=fun σ H Q=>∃F δ own r,SR Z F H σ δ own∧f δ=some r∧match r with
 | .v rv δ'=>∀v H' F' own',Same H H'→Same F F'→SR Z F' H' σ δ' own'→Zml Z F' H' σ own' rv v→Q v H'
 | .x e δ'=>XOk Z F σ e δ'
noncomputable def Zew(Z:Ent K)(f:FAX):TA:=fun σ H Q=>∃F δ own r,SR Z F H σ δ own∧f δ=some r∧match r with
 | .v rvs δ'=>∀vs H' F' own',Same H H'→Same F F'→SR Z F' H' σ δ' own'→RVSs K F' σ rvs vs→Q vs H'
 | .x e δ'=>XOk Z F σ e δ'
noncomputable def Z2x(Z:Ent K)(f:FDX):TA:=fun σ H Q=>∃F δ own r,SR Z F H σ δ own∧f δ=some r∧match r with
 | .v ds δ'=>∀vs H' F' own',Same H H'→Same F F'→SR Z F' H' σ δ' own'→Reps K F' ds vs→Q vs H'
 | .x e δ'=>XOk Z F σ e δ'
@[simp] noncomputable def FX.val(f:FX):FE:=fun δ=>match f δ with
 |some (.v rv δ')=>some (rv,δ')
 |_=>none
section
variable{Z:Ent K}{H:Hp}{σ:St}{Q:VK}{E:Ends}
theorem Zgp{f:FX}(h:Zc Z f.val σ H Q):Zc4 Z f σ H Q:=by
 obtain⟨F,δ,own,rv,δ',s,e,k⟩:=h
 unfold FX.val at e
 split at e
 ·rename_i rv' δ2 hf
  cases e
  exact⟨F,δ,own,_,s,hf,k⟩
 ·cases e
theorem Zgq{f:FX}{F:Hp}{δ δ':DSt}{own:Nat→Zp}{x:Exn}(s:SR Z F H σ δ own)(hf:f δ=some (.x x δ'))(k:XOk Z F σ x δ'):Zc4 Z f σ H Q:=⟨F,δ,own,_,s,hf,k⟩
@[simp] noncomputable def Ze0(fe:FE):FX:=fun δ=>(fe δ).bind fun p=>some (.v p.1 p.2)
theorem Zs1{fe:FE}(h:Zc4 Z (Ze0 fe) σ H Q):Zc Z fe σ H Q:=by
 obtain⟨F,δ,own,r,s,e,k⟩:=h
 obtain⟨⟨rv,δ'⟩,e1,e2⟩:=Option.bind_eq_some_iff.mp e
 cases e2
 exact⟨F,δ,own,rv,δ',s,e1,k⟩
@[simp] noncomputable def Zbw:FAX:=fun δ=>some (.v [] δ)
@[simp] noncomputable def Za1(fx:FX)(fa:FAX):FAX:=fun δ=>(fx δ).bind fun
 | .v rv δ1=>(fa δ1).bind fun
  | .v rvs δ2=>some (.v (rv::rvs) δ2)
  | .x e δ2=>some (.x e δ2)
 | .x e δ1=>some (.x e δ1)
theorem Zm3{R:List V→Hp→Prop}(h:Zew Z Zbw σ H R):tNil σ H R:=by
 obtain⟨F,δ,own,r,s,e,k⟩:=h
 cases e
 exact k [] H F own (Same.refl H) (Same.refl F) s .nil
theorem Zlb{fx:FX}{fa:FAX}{R:List V→Hp→Prop}(h:Zew Z (Za1 fx fa) σ H R):Zee (Zc4 Z fx) (Zew Z fa) σ H R:=by
 obtain⟨F,δ,own,r,s,e,k⟩:=h
 obtain⟨r1,e1,e2⟩:=Option.bind_eq_some_iff.mp e
 cases r1 with
 |x x1 δ1=>cases e2;exact⟨F,δ,own,_,s,e1,k⟩
 |v rv δ1=>
  obtain⟨r2,e3,e4⟩:=Option.bind_eq_some_iff.mp e2
  refine⟨F,δ,own,_,s,e1,fun v H1 F1 own1 sH sF s1 r1=>?_⟩
  obtain⟨F2,sF2,s2,rr⟩:=s1.settleR r1
  cases r2 with
  |x x2 δ2=>cases e4;exact⟨F2,δ1,own1,_,s2,e3,XOk.mono (sF.trans sF2) k⟩
  |v rvs δ2=>
   cases e4
   exact⟨F2,δ1,own1,_,s2,e3,fun vs H3 F3 own3 sH3 sF3 s3 r3=>k _ H3 F3 own3 (sH.trans sH3) (sF.trans (sF2.trans sF3)) s3 (.cons (rr.mono sF3) r3)⟩
@[simp] noncomputable def Zy0:FDX:=fun δ=>some (.v [] δ)
@[simp] noncomputable def Zwk(fx:FX)(fd:FDX):FDX:=fun δ=>(fx δ).bind fun
 | .v rv δ1=>(frz rv δ1).bind fun q=>(fd q.2).bind fun
  | .v ds δ2=>some (.v (q.1::ds) δ2)
  | .x e δ2=>some (.x e δ2)
 | .x e δ1=>some (.x e δ1)
@[simp] noncomputable def tupX(fd:FDX):FX:=fun δ=>(fd δ).bind fun
 | .v ds δ1=>if ds.length≤PySem.sizeLine then some (.v (.tmp (.fz (.tup ds))) δ1)else none
 | .x e δ1=>some (.x e δ1)
@[simp] noncomputable def Z4b(g:List D→Option SV)(fa:FAX):FX:=fun δ=>(fa δ).bind fun
 | .v rvs δ1=>(Zdr rvs δ1).bind fun ds=>(g ds).bind fun sv=>some (.v (.tmp sv) δ1)
 | .x e δ1=>some (.x e δ1)
@[simp] noncomputable def binX(g:D→D→Option SV)(fa fb:FX):FX:=fun δ=>(fa δ).bind fun
 | .x e δ1=>some (.x e δ1)
 | .v r1 δ1=>(fb δ1).bind fun
  | .x e δ2=>some (.x e δ2)
  | .v r2 δ2=>(rdv r1 δ2).bind fun d1=>(rdv r2 δ2).bind fun d2=>(g d1 d2).bind fun sv=>some (.v (.tmp sv) δ2)
end
inductive XO where
 |v (sv:SV)|x (e:Exn)
noncomputable def spX(K:PySem.W.Frag)(n:Nat)(g:List D→Option XO):Sp:=fun vs H Q E=>∃F ds o,Same F H∧Reps K F ds vs∧ds.length=n∧g ds=some o∧match o with
 | .v sv=>∀v H' F' ns,Same H H'→Same F F'→Same F' H'→(∀(b:Addr) (o:HO),F' b=some o→F b=some o∨H b=none)→Shape K F' sv v ns→(adr ns).Nodup→(∀p∈ns,F' p.1=none∧H p.1=none∧H' p.1=some p.2)→Q v H'
 | .x e=>∀cls od H' F',Same H H'→Same F F'→Same F' H'→(∀(b:Addr) (o:HO),F' b=some o→F b=some o∨H b=none)→Zjt K F' e cls od→E cls od H'
theorem Zs2{n:Nat}{g:List D→Option XO}{vs:List V}{H:Hp}{Q:VK}{E:XK}(h:spX K n g vs H Q E):vs.length=n:=by
 obtain⟨F,ds,o,le,r,hn,e,k⟩:=h
 rw[←r.length];exact hn
@[simp] noncomputable def outX(f:FS)(n:Nat)(ds:List D):Option XO:=match f (Zf8 n ds)with
 |some (.rt sv)=>some (.v sv)
 |some (.nx _)=>some (.v (.fz .non))
 |some (.ex e _)=>some (.x e)
 |_=>none
@[simp] noncomputable def valG(h:List D→Option XO)(ds:List D):Option SV:=match h ds with
 |some (.v sv)=>some sv
 |_=>none
theorem Zs3{n:Nat}{g:List D→Option XO}{vs:List V}{H:Hp}{Q:VK}{E:XK}(h:spOf K n (valG g) vs H Q E):spX K n g vs H Q E:=by
 obtain⟨F,ds,sv,le,r,hn,e,k⟩:=h
 unfold valG at e
 split at e
 ·rename_i hg
  cases e
  exact⟨F,ds,.v sv,le,r,hn,hg,k⟩
 ·cases e
noncomputable abbrev entX(H F:Hp)(E:XK):Ent K:=⟨H,F,fun cls od _ H'=>E cls od H'⟩
theorem SR.ent{Z Y:Ent K}{F H:Hp}{σ:St}{δ:DSt}{own:Nat→Zp}(s:SR Z F H σ δ own)(h1:Z.h=Y.h:=by rfl)(h2:Z.f=Y.f:=by rfl):SR Y F H σ δ own:=
 ⟨s.le,h1▸h2▸s.fro,h1▸s.old,s.len,s.at',s.nod,fun i p hp=>h1▸s.ok i p hp,s.sep⟩
theorem Zm4{N:List Str}{n:Nat}{f:FS}{vs:List V}{H:Hp}{Q:VK}{E:XK}(h:spX K n (outX f N.length) vs H Q E):∃F,Zv (entX H F E:Ent K) f {nx:=fun _ H'=>Q .non H',rt:=Q} (L2.start N vs) H:=by
 obtain⟨F,ds,o,le,r,hn,e,k⟩:=h
 have s0:SR (entX H F E:Ent K) F H (L2.start N vs) (Zf8 N.length ds) fun _=>[]:=(Zgk (N:=N) le r).ent
 unfold outX at e
 split at e
 ·rename_i sw hf
  cases e
  exact⟨F,F,_,_,.rt sw,s0,hf,fun v H' F' ns a b c d e' nd ok=>k v H' F' ns d a b c e' nd ok⟩
 ·rename_i δ hf
  cases e
  exact⟨F,F,_,_,.nx δ,s0,hf,fun σ' H' F' own' a s'=>k .non H' F' [] s'.old a s'.le s'.fro (.fz .non) List.nodup_nil fun _ h=>(nomatch h)⟩
 ·rename_i x δ hf
  cases e
  exact⟨F,F,_,_,.ex x δ,s0,hf,fun σ' H' F' own' cls od a s' r'=>k cls od H' F' s'.old a s'.le s'.fro r'⟩
 ·cases e
section
variable{Z:Ent K}{H:Hp}{σ:St}{Q:VK}{E:Ends}
theorem SR.behind{F2 H1 F3 H3:Hp}{δ2:DSt}{own2:Nat→Zp}(s2:SR Z F2 H1 σ δ2 own2)(sH3:Same H1 H3)(sF3:Same F2 F3)(le3:Same F3 H3)(fro3:∀(b:Addr) (o:HO),F3 b=some o→F2 b=some o∨H1 b=none):SR Z F3 H3 σ δ2 own2:=by
 refine⟨le3,fun b o e=>?_,s2.old.trans sH3,s2.len,fun i sw ei=>?_,s2.nod,fun i p hp=>?_,s2.sep⟩
 ·rcases fro3 b o e with z|z
  ·exact s2.fro b o z
  ·exact .inr (s2.old.free z)
 ·obtain⟨w,h1,h2⟩:=s2.at' i sw ei
  exact⟨w,h1,h2.mono sF3⟩
 ·obtain⟨a,b,c⟩:=s2.ok i p hp
  refine⟨?_,b,sH3 _ _ c⟩
  cases z:F3 p.1 with
  |none=>rfl
  |some u=>
   rcases fro3 _ u z with y|y
   ·rw[a]at y;cases y
   ·rw[c]at y;cases y
@[simp] noncomputable def Zfm(n:Nat)(g:List D→Option XO)(fa:FAX):FX:=fun δ=>(fa δ).bind fun
 | .x e δ1=>some (.x e δ1)
 | .v rvs δ1=>(DL.frzAll rvs δ1).bind fun q=>if q.1.length=n then(g q.1).bind (fun
  | .v sv=>some (.v (.tmp sv) (if sv.scal then δ1 else q.2))
  | .x e=>some (.x e q.2))else none
theorem Zs4{n:Nat}{g:List D→Option XO}{fa:FAX}(h:Zc4 Z (Zfm n g fa) σ H Q):Zme (spX K n g) Z.x (Zew Z fa) σ H Q:=by
 obtain⟨F,δ,own,rx,s,e,k⟩:=h
 obtain⟨r1,e1,e2⟩:=Option.bind_eq_some_iff.mp e
 cases r1 with
 |x x1 δ1=>cases e2;exact⟨F,δ,own,_,s,e1,k⟩
 |v rvs δ1=>
  obtain⟨⟨ds,δ2⟩,e3,e4⟩:=Option.bind_eq_some_iff.mp e2
  refine⟨F,δ,own,_,s,e1,fun vs H1 F1 own1 sH sF s1 r1=>?_⟩
  obtain⟨F2,own2,sF2,s2,r2⟩:=s1.frzAll (own:=own) (F:=F) (δ:=δ) r1 e3
  by_cases hn:ds.length=n
  ·rw[if_pos hn]at e4
   obtain⟨o,e5,e6⟩:=Option.bind_eq_some_iff.mp e4
   refine⟨F2,ds,o,s2.le,r2,hn,e5,?_⟩
   cases o with
   |x x2=>
    cases e6
    exact fun cls od H3 F3 sH3 sF3 le3 fro3 rr=>k H3 F3 own2 cls od (sF.trans (sF2.trans sF3)) (s2.behind sH3 sF3 le3 fro3) rr
   |v sv=>
    cases e6
    intro v H3 F3 ns sH3 sF3 le3 fro3 sh nd ok
    by_cases hs:sv.scal=true
    ·rw[if_pos hs]at k
     obtain⟨_,sh'⟩:=Zju (F':=F1) hs sh
     exact k v H3 F1 own1 (sH.trans sH3) sF (s1.grow sH3) ⟨[],sh',List.nodup_nil,fun _ h=>(nomatch h),fun _ _ _ h=>(nomatch h)⟩
    ·rw[if_neg hs]at k
     exact k v H3 F3 own2 (sH.trans sH3) (sF.trans (sF2.trans sF3)) (s2.behind sH3 sF3 le3 fro3) ⟨ns,sh,nd,fun p hp=>⟨(ok p hp).1,(s2.old).free (ok p hp).2.1,(ok p hp).2.2⟩,fun i p q hp hq e=>by
      have z:=(s2.ok i q hq).2.2
      rw[←e,(ok p hp).2.1]at z;cases z⟩
  ·rw[if_neg hn]at e4;cases e4
@[simp] noncomputable def Z2y(g:List D→Option SV)(ds:List D):Option XO:=(g ds).bind fun sv=>some (.v sv)
@[simp] noncomputable def setX(i:Nat)(fx:FX):FS:=fun δ=>(fx δ).bind fun
 | .v rv δ1=>(stow i rv δ1).bind fun δ'=>some (.nx δ')
 | .x e δ1=>some (.ex e δ1)
theorem XOk.of{F:Hp}{x:Exn}{δ:DSt}(k:Zff Z F E (.ex x δ)):XOk Z F σ x δ:=fun H' F' own' cls od a b c=>k σ H' F' own' cls od a b c
theorem Zwl{i:Nat}{fx:FX}(h:Zv Z (setX i fx) E σ H):tAsg (Zc4 Z fx) (Zkv i) E σ H:=by
 obtain⟨F,δ,own,fl,s,e,k⟩:=h
 obtain⟨r,e1,e2⟩:=Option.bind_eq_some_iff.mp e
 cases r with
 |x x1 δ1=>cases e2;exact Zgq s e1 (.of k)
 |v rv δ1=>exact Zgp (Zvp (Z:=Z) (E:=E) (i:=i) (fe:=fx.val) ⟨F,δ,own,fl,s,by unfold setF FX.val;rw[e1];exact e2,k⟩)
@[simp] noncomputable def retX(fx:FX):FS:=fun δ=>(fx δ).bind fun
 | .v rv δ1=>(outF rv δ1).bind fun sv=>some (.rt sv)
 | .x e δ1=>some (.ex e δ1)
theorem Zwm{fx:FX}(h:Zv Z (retX fx) E σ H):tRet (Zc4 Z fx) E σ H:=by
 obtain⟨F,δ,own,fl,s,e,k⟩:=h
 obtain⟨r,e1,e2⟩:=Option.bind_eq_some_iff.mp e
 cases r with
 |x x1 δ1=>cases e2;exact Zgq s e1 (.of k)
 |v rv δ1=>exact Zgp (Zvo (Z:=Z) (E:=E) (fe:=fx.val) ⟨F,δ,own,fl,s,by unfold retF FX.val;rw[e1];exact e2,k⟩)
@[simp] noncomputable def Zm5(fx:FX):FS:=fun δ=>(fx δ).bind fun
 | .v _ δ1=>some (.nx δ1)
 | .x e δ1=>some (.ex e δ1)
theorem Zs5{fx:FX}(h:Zv Z (Zm5 fx) E σ H):Zg7 (Zc4 Z fx) E σ H:=by
 obtain⟨F,δ,own,fl,s,e,k⟩:=h
 obtain⟨r,e1,e2⟩:=Option.bind_eq_some_iff.mp e
 cases r with
 |x x1 δ1=>cases e2;exact Zgq s e1 (.of k)
 |v rv δ1=>exact Zgp (Zvn (Z:=Z) (E:=E) (fe:=fx.val) ⟨F,δ,own,fl,s,by unfold Zvm FX.val;rw[e1];exact e2,k⟩)
@[simp] noncomputable def appX(i:Nat)(fx:FX):FS:=fun δ=>match fx δ with
 |some (.x e δ1)=>(match δ[i]? with
  |some (some (.ol _))=>some (.ex e δ1)
  |_=>none)
 |_=>appF i fx.val δ
@[simp] noncomputable def extX(i:Nat)(fx:FX):FS:=fun δ=>match fx δ with
 |some (.x e δ1)=>(match δ[i]? with
  |some (some (.ol _))=>some (.ex e δ1)
  |_=>none)
 |_=>extF i fx.val δ
@[simp] noncomputable def Zcc(c:Str):FS:=fun δ=>some (.ex ⟨c,[],[]⟩ δ)
theorem Zs6{c:Str}{C:Addr}{x:Str}(cl:Zci K c C)(hx:∀cls od σ H',Z.x cls od σ H'→Z.x cls od [] H')(h:Zv Z (Zcc c) E σ H):Zqm (fun cls od H'=>Z.x cls od [] H') C (Zee (tC (.str x)) tNil) E σ H:=by
 obtain⟨F,δ,own,fl,s,e,k⟩:=h
 cases e
 exact⟨by show 1≤PySem.sizeLine;decide,hx _ _ _ _ (k σ H F own (.ref C) none (Same.refl F) s ⟨C,cl,rfl,rfl,rfl⟩)⟩
set_option genInjectivity false in
structure HX where
 x:Str
 np:Pos
 nm:Option (Str×Nat)
 b0:Stmt
 suite:List Stmt
 pos:Pos
 B:Addr
 yes:List Str
 no:List Str
 f:FS
set_option genInjectivity false in
structure HX.Sub(K:PySem.W.Frag)(h:HX):Prop where
 yes:∀c∈h.yes,∀C,Zci K c C→PySem.W.mroIn K C (.ref h.B)=some true
 no:∀c∈h.no,∀C,Zci K c C→PySem.W.mroIn K C (.ref h.B)=some false
noncomputable def HX.hd(Z:Ent K)(h:HX):Hd:=⟨h.x,h.np,h.nm,h.b0,h.suite,h.pos,h.B,Zv Z h.f⟩
set_option genInjectivity false in
structure HF where
 i:Option Nat
 yes:List Str
 no:List Str
 f:FS
@[simp] noncomputable def HX.hf(h:HX):HF:=⟨h.nm.map (·.2),h.yes,h.no,h.f⟩
@[simp] noncomputable def Zps(c:Str):List HF→Option HF
 | []=>none
 |h::r=>if c∈h.yes then some h else if c∈h.no then Zps c r else none
theorem Zh6(Z:Ent K){c:Str}{C:Addr}(cl:Zci K c C):∀(hs:List HX) {f:HF},(∀h∈hs,h.Sub K)→Zps c (hs.map HX.hf)=some f→∃h:HX,h.hf=f∧Zk2 K C (hs.map (HX.hd Z))=some (h.hd Z)
 | [],f,_,e=>nomatch e
 |h::r,f,ok,e=>by
  have e:(if c∈h.yes then some h.hf else if c∈h.no then Zps c (r.map HX.hf)else none)=some f:=e
  show∃g:HX,g.hf=f∧(match PySem.W.mroIn K C (.ref h.B)with|some true=>some (h.hd Z)|some false=>Zk2 K C (r.map (HX.hd Z))|none=>none)=some (g.hd Z)
  have kh:=ok h List.mem_cons_self
  by_cases q:c∈h.yes
  ·rw[if_pos q]at e;cases e;exact⟨h,rfl,by rw[kh.yes c q C cl]⟩
  ·rw[if_neg q]at e
   by_cases q2:c∈h.no
   ·rw[if_pos q2]at e
    obtain⟨g,g1,g2⟩:=Zh6 Z cl r (fun g hg=>ok g (List.mem_cons_of_mem _ hg)) e
    exact⟨g,g1,by rw[kh.no c q2 C cl];exact g2⟩
   ·rw[if_neg q2]at e;cases e
@[simp] noncomputable def Fl.but(i:Nat):Fl→Fl
 | .nx δ=>.nx (δ.set i none)
 | .bk δ=>.bk (δ.set i none)
 | .ct δ=>.ct (δ.set i none)
 | .ex e δ=>.ex e (δ.set i none)
 | .rt sv=>.rt sv
@[simp] noncomputable def Fl.isEx:Fl→Bool
 | .ex _ _=>true
 |_=>false
@[simp] noncomputable def HF.run(h:HF)(x:Exn)(δ:DSt):Option Fl:=match h.i with
 |none=>h.f δ
 |some i=>if i<δ.length then(h.f (δ.set i (some (.fz (.exc x.c x.ks x.vs))))).bind fun fl=>if fl.isEx=true then none else some (fl.but i)else none
@[simp] noncomputable def tryF(fb:FS)(hs:List HF):FS:=fun δ=>(fb δ).bind fun
 | .ex x δ1=>(Zps x.c hs).bind fun h=>h.run x δ1
 |fl=>some fl
noncomputable abbrev Ent.wish(Z:Ent K)(EX:EXT):Ent K:=⟨Z.h,Z.f,EX⟩
theorem SR.unset{F:Hp}{δ:DSt}{own:Nat→Zp}(s:SR Z F H σ δ own)(i:Nat):SR Z F H (σ.set i none) (δ.set i none) (put own i []):=by
 refine⟨s.le,s.fro,s.old,by rw[List.length_set,List.length_set];exact s.len,fun j sw ej=>?_,fun j=>?_,fun j p hp=>?_,fun j k p q hjk hp hq=>?_⟩
 ·by_cases hj:j=i
  ·subst hj
   have hd:j<δ.length:=by
    have:=(List.getElem?_eq_some_iff.mp ej).1
    simpa using this
   rw[List.getElem?_set_self hd]at ej
   cases ej
  ·rw[List.getElem?_set_ne (Ne.symm hj)]at ej
   rw[Zu hj,List.getElem?_set_ne (Ne.symm hj)]
   exact s.at' j sw ej
 ·by_cases hj:j=i
  ·subst hj;rw[Zo];exact List.nodup_nil
  ·rw[Zu hj];exact s.nod j
 ·by_cases hj:j=i
  ·subst hj;rw[Zo]at hp;exact nomatch hp
  ·rw[Zu hj]at hp;exact s.ok j p hp
 ·by_cases hj:j=i
  ·subst hj;rw[Zo]at hp;exact nomatch hp
  ·by_cases hk:k=i
   ·subst hk;rw[Zo]at hq;exact nomatch hq
   ·rw[Zu hj]at hp
    rw[Zu hk]at hq
    exact s.sep j k p q hjk hp hq
theorem Zpt{F:Hp}{i:Nat}{fl:Fl}(hx:fl.isEx=false)(k:Zff Z F E (fl.but i)):Zff Z F (E.but i) fl:=by
 cases fl with
 |nx δ=>exact fun σ' H' F' own' a b=>k (σ'.set i none) H' F' _ a (b.unset i)
 |bk δ=>exact fun σ' H' F' own' a b=>k (σ'.set i none) H' F' _ a (b.unset i)
 |ct δ=>exact fun σ' H' F' own' a b=>k (σ'.set i none) H' F' _ a (b.unset i)
 |rt sv=>exact k
 |ex x δ=>cases hx
theorem Z0x{fb:FS}{hs:List HX}(hsub:∀h∈hs,h.Sub K)(h:Zv Z (tryF fb (hs.map HX.hf)) E σ H):tTry K (fun EX=>Zv (Z.wish EX) fb) (hs.map (HX.hd Z)) E σ H:=by
 obtain⟨F,δ,own,fl,s,e,k⟩:=h
 obtain⟨f1,e1,e2⟩:=Option.bind_eq_some_iff.mp e
 refine⟨F,δ,own,f1,s.ent,e1,?_⟩
 cases f1 with
 |nx δ1=>cases e2;exact fun σ' H' F' own' a b=>k σ' H' F' own' a b.ent
 |bk δ1=>cases e2;exact fun σ' H' F' own' a b=>k σ' H' F' own' a b.ent
 |ct δ1=>cases e2;exact fun σ' H' F' own' a b=>k σ' H' F' own' a b.ent
 |rt sv=>cases e2;exact k
 |ex x δ1=>
  obtain⟨hf,e3,e4⟩:=Option.bind_eq_some_iff.mp e2
  intro σ' H' F' own' cls od sF s' r
  obtain⟨C,cl,rc,r2⟩:=r
  obtain⟨g,g1,g2⟩:=Zh6 Z cl hs hsub e3
  subst g1
  refine⟨C,g.hd Z,rc,g2,?_⟩
  have s2:SR Z F' H' σ' δ1 own':=s'.ent
  obtain⟨gx,gnp,gnm,gb0,gsu,gpos,gB,gy,gn,gf⟩:=g
  cases gnm with
  |none=>exact⟨F',δ1,own',fl,s2,e4,k.mono sF⟩
  |some ni=>
   obtain⟨n,i⟩:=ni
   have e4:(if i<δ1.length then(gf (δ1.set i (some (.fz (.exc x.c x.ks x.vs))))).bind fun fl=>if fl.isEx=true then none else some (fl.but i)else none)=some fl:=e4
   by_cases hc:i<δ1.length
   ·rw[if_pos hc]at e4
    obtain⟨fl0,e5,e6⟩:=Option.bind_eq_some_iff.mp e4
    have hx0:fl0.isEx=false:=by
     cases z:fl0.isEx with
     |true=>rw[if_pos z]at e6;cases e6
     |false=>rfl
    rw[if_neg (by rw[hx0];exact Bool.false_ne_true)]at e6
    cases e6
    intro a ha
    have ha':H' a=none:=ha
    have sm:=Zbo (o:=.ext (Zbt a C od)) ha'
    have sF2:Same F' (addL F' [(a,.ext (Zbt a C od))]):=Zbu fun q hq=>by obtain rfl:=List.mem_singleton.mp hq;exact s2.le.free ha'
    have s3:SR Z (addL F' [(a,.ext (Zbt a C od))]) (upd H' a (.ext (Zbt a C od))) σ' δ1 own':=by
     refine(s2.grow sm).addF nd1 (fun q hq=>?_) (fun q hq=>?_) (fun q hq=>?_) fun i q u hq hu=>?_
     ·obtain rfl:=List.mem_singleton.mp hq;exact s2.le.free ha'
     ·obtain rfl:=List.mem_singleton.mp hq;exact Zab
     ·obtain rfl:=List.mem_singleton.mp hq;exact s2.old.free ha'
     ·obtain rfl:=List.mem_singleton.mp hq
      intro e
      have e':a=u.1:=e
      have z:=(s2.ok i u hu).2.2
      rw[←e',ha']at z;cases z
    have rp:Rep K (addL F' [(a,.ext (Zbt a C od))]) (.exc x.c x.ks x.vs) (.ref a):=by
     cases od with
     |none=>obtain⟨r3,r4⟩:=r2;rw[r3,r4];exact .exc cl Zab
     |some dx=>obtain⟨fs,r3,r4,r5⟩:=r2;exact .exd cl Zab (sF2 _ _ r3) r4 (r5.mono sF2)
    have s4:=s3.store (i:=i) (sv:=.fz (.exc x.c x.ks x.vs)) (v:=.ref a) (ns:=[]) (.fz rp) (by rw[s3.len];exact hc)
    exact⟨_,_,_,fl0,s4,e5,Zpt hx0 (k.mono (sF.trans sF2))⟩
   ·rw[if_neg hc]at e4;cases e4
end
end DL
namespace DL
open PySem PySem.Spec PyProof.Rows L2
section
variable{X:Cx}{Z:Ent X.K}{a b c:Expr}{fa fb:FE}{fx fy:FX}{pos:Pos}
theorem Zex(h:PE X a (Zc Z fa)):PE X a (Zc4 Z (Ze0 fa)):=h.imp fun _ _ _ q=>Zs1 q
theorem Zfn:PA X [] (Zew Z Zbw):=Zbb.imp fun _ _ _ h=>Zm3 h
theorem Zc5{es:List Expr}{fr:FAX}(ha:PE X a (Zc4 Z fx))(hr:PA X es (Zew Z fr))(hs:starEach (a::es) X.env=(false,eval a X.env)::starEach es X.env:=by rfl):PA X (a::es) (Zew Z (Za1 fx fr)):=(Zac ha hr hs).imp fun _ _ _ h=>Zlb h
theorem Zfo{k n:Nat}{f:Addr}{fd:FuncData}{ps:List Str}{g:List D→Option XO}{x:Str}{p:Pos}{es:List Expr}{fr:FAX}(F:FnOk X.prog X.w X.K X.mg X.base (CX1 X.prog X.w) k f fd ps (spX X.K n g))(hr:Room k X.A)(hm:X.mg x=some (.ref f))(hk:PySem.W.keepIn X.K (.ref f)=true)(hb:Zat X.K fd ps [])
  (th:Zmd X Z.x) (ha:PA X (a::es) (Zew Z fr)) (hg:Gl X x:=by rfl) (hdb:(x==("__debug__":Str))=false:=by decide) (he:starEach (a::es) X.env=(false,eval a X.env)::starEach es X.env:=by rfl) (hpl:(backTo pos (starEach es X.env)).any (·.1)=false:=by rfl):
  PE X (.Call (.Name x p) (a::es) [] pos) (Zc4 Z (Zfm n g fr)):=(Zjp F hr hg hm hk hb th ha hdb he hpl).imp fun _ _ _ h=>Zs4 h
theorem Z0y{X:Cx}:Zjk (CX1 X.prog X.w) X fun _ _ _=>False:=fun _ _ _ _ _ _ _ h=>by
 obtain⟨_,_,_,_,_,_,_,_,_,_,_,_,_,_,_,q⟩:=h
 exact q.elim
theorem Zm6{k n:Nat}{f:Addr}{fd:FuncData}{ps:List Str}{g:List D→Option XO}{x:Str}{p:Pos}{es:List Expr}{fr:FA}(F:FnOk X.prog X.w X.K X.mg X.base (CX1 X.prog X.w) k f fd ps (spX X.K n g))(hr:Room k X.A)(hm:X.mg x=some (.ref f))(hk:PySem.W.keepIn X.K (.ref f)=true)(hb:Zat X.K fd ps [])
  (ha:PA X (a::es) (Zd5 Z fr)) (hg:Gl X x:=by rfl) (hdb:(x==("__debug__":Str))=false:=by decide) (he:starEach (a::es) X.env=(false,eval a X.env)::starEach es X.env:=by rfl) (hpl:(backTo pos (starEach es X.env)).any (·.1)=false:=by rfl):
  PE X (.Call (.Name x p) (a::es) [] pos) (Zc Z (Zck n (valG g) fr)):=
 (Zl3 (sp:=spOf X.K n (valG g)) (CX:=CX1 X.prog X.w) (F.imp fun _ _ _ _ h=>Zs3 h) hr hg hm hk hb .nil Z0y ha hdb he hpl).imp fun _ _ _ h=>Zqp h
theorem Zb3{P:Program}{w:World}{K:PySem.W.Frag}{mg:Str→Option Value}{base:Heap}{N:List Str}{qual:Str}{scope:Scope}{f:Addr}{cd:Value}{A:Around}{outer:List Env}{s:Shared}{H:Hp}{E:XK}:
  Zmd (cxOf (CX1 P w) P w K mg base N qual scope f cd A outer s H E) fun cls od _ H'=>E cls od H':=by
 have th:=(Zan (P:=P) (w:=w) (K:=K) (mg:=mg) (base:=base) (N:=N) (qual:=qual) (scope:=scope) (f:=f) (cd:=cd) (A:=A) (outer:=outer) (s:=s) (H:=H) (E:=E)).t.pass rfl
 intro pins σ H1 s1 e s2 I h
 exact th pins σ H1 s1 e s2 I h
theorem Fun.okX{P:Program}{w:World}{K:PySem.W.Frag}{mg:Str→Option Value}{base:Heap}{x qual:Str}{st:Stmt}{f:Addr}{fd:FuncData}{N ps:List Str}{k:Nat}{sp:Sp}(F:Fun K x qual st f fd)(S:FnScope N ps (Zi st))(len:∀vs H Q E,sp vs H Q E→vs.length=ps.length)
  (hbody:∀(cdv:Value) (A:Around) (outer:List Env) (s:Shared) (H:Hp) (vs:List V) (Q:VK) (E:XK),Room k (A.deeper (envOfC qual (Zi st) s.heap.objs.size f cdv))→sp vs H Q E→
   ∃t,PSs (cxOf (CX1 P w) P w K mg base N qual (Zi st) f cdv A outer s H E) (Zbs st) t∧t {nx:=fun _ H'=>Q .non H',rt:=Q} (L2.start N vs) H):FnOk P w K mg base (CX1 P w) (k+1) f fd ps sp:=by
 obtain⟨oc,od,kV,doc,pm,an,cdv,ct,osl,rfl,lk,hcd⟩:=F.ex
 exact Zu9 lk hcd S len fun A outer s H vs Q E hr hsp=>hbody cdv A outer s H vs Q E hr hsp
theorem Zi7(h:PE X a (Zc4 Z fx))(hs:swapsWith a none pos.line X.env=pure false:=by rfl):PS X (.Expr a pos) (Zv Z (Zm5 fx)):=(Zed h hs).imp fun _ _ _ h=>Zs5 h
theorem Zwn(h:PE X a (Zc4 Z fx)):PS X (.Return (some a) pos) (Zv Z (retX fx)):=(Zqd h).imp fun _ _ _ h=>Zwm h
theorem Zqz(i:Nat){x:Str}{pos':Pos}(hN:X.N.Nodup)(he:PE X a (Zc4 Z fx))(hi:X.N[i]? =some x:=by rfl)(hx:Loc X.env.scope x:=by first|exact Or.inl rfl|exact Or.inr rfl)(hs:swapsWith a (some (.Name x pos')) pos.line X.env=pure false:=by rfl)(hf:X.fn x=true∨X.env.scope.names.lookup x=some .local:=by first|exact .inl rfl|exact .inr rfl):
  PS X (.Assign [.Name x pos'] a pos) (Zv Z (setX i fx)):=(Zlu hN hi hx he hs hf).imp fun _ _ _ h=>Zwl h
theorem Zbi{K:PySem.W.Frag}{h:Heap}{mg:Str→Option Value}{x:Str}{C:Addr}{bmB:List Value}{newId:String}(X:K.In h)(hb:mg x=some (.ref C))(q:PySem.W.excIn K C bmB newId=true):OwnCls x C bmB newId mg h:=by
 refine⟨hb,?_⟩
 unfold PySem.W.excIn at q
 split at q
 ·rename_i dd cd sl ho
  split at q
  ·rename_i C2 bm s0 s1 s2 s3 id s5 hm hs
   simp only[Bool.and_eq_true,beq_iff_eq,Bool.not_eq_true']at q
   obtain⟨⟨⟨⟨⟨rfl,rfl⟩,hdl⟩,ht⟩,hok⟩,hin⟩:=q
   obtain⟨nm,bs,mro,ns,qn,hd,sn,sub,ab,col,del⟩:=cd
   dsimp only at hm hdl hok hin
   subst hm hdl
   obtain⟨l⟩:=sl
   simp only at hs
   subst hs
   exact⟨bm,ns,nm,qn,bs,hd,sn,sub,ab,col,dd,s0,s1,s2,s3,s5,_,X _ _ ho,
    .of_isNs (PySem.W.isNs_of_in X hok),PySem.W.nsMap_none_of_in X hok hin,PySem.W.tail_of_in X ht⟩
  ·cases q
 ·cases q
theorem Zpu:∀h bm,OwnTail h VEB bm→bm.contains (.type "BaseException")=true:=fun h bm t=>t.hasType (by decide)
theorem Zbx{x:Str}{C:Addr}{np cpos cp:Pos}{y:Str}{j:Nat}(th:Zhp X fun cls od H'=>Z.x cls od [] H')(hc:X.calm=true)(oc:OwnCls x C VEB "ValueError.__new__" X.mg X.base)(cl:Zci X.K x C)(hx:∀cls od σ H',Z.x cls od σ H'→Z.x cls od [] H':=by exact fun _ _ _ _ h=>h)(hex:X.ex=[]:=by rfl)(hg:Gl X x:=by rfl)
  (he:starEach [.Constant (.str y) j cp] X.env=(false,eval (.Constant (.str y) j cp) X.env)::starEach [] X.env:=by rfl) (hpl:((backTo cpos (starEach [.Constant (.str y) j cp] X.env)).any fun x=>x.1)=false:=by rfl)
  (hbk:∃z rest,backTo cpos (starEach [.Constant (.str y) j cp] X.env)=(false,z)::rest:=by exact⟨_,_,rfl⟩) (hd:(x==("__debug__":Str))=false:=by decide):
  PS X (.Raise (some (.Call (.Name x np) [.Constant (.str y) j cp] [] cpos)) none pos) (Zv Z (Zcc x)):=
 (Zo5 th hc hex oc hg (Zac Zls Zbb he) he hpl hbk Zpu hd).imp fun _ _ _ h=>Zs6 cl hx h
theorem Z0z{body:List Stmt}{fb:FS}{h0:HX}{hs:List HX}(hb:∀pn xe EX,Zdq (X.inTry pn xe) EX→PSs (X.inTry pn xe) body (Zv (Z.wish EX) fb))(ok:∀h∈h0::hs,(h.hd Z).Ok X)(hsub:∀h∈h0::hs,h.Sub X.K)(hex:X.ex=[]:=by rfl)(hst:X.stack=X.env::X.outer:=by rfl)(hfr:X.env.frame=some X.env.locals:=by rfl):
  PS X (.Try body (((h0::hs).map (HX.hd Z)).map Hd.ast) [] [] pos) (Zv Z (tryF fb ((h0::hs).map HX.hf))):=
 (Zvi (tb:=fun EX=>Zv (Z.wish EX) fb) (h0:=h0.hd Z) (hs:=hs.map (HX.hd Z)) hb (fun h hh=>by
  have hh':h∈(h0::hs).map (HX.hd Z):=hh
  obtain⟨g,hg,rfl⟩:=List.mem_map.mp hh'
  exact ok g hg) hex hst hfr).imp fun _ _ _ h=>Z0x (hs:=h0::hs) hsub h
theorem Zm7{α:Type}{P:α→Prop}{a:α}(h:P a):∀x∈[a],P x:=fun x hx=>by rw[List.mem_singleton.mp hx];exact h
theorem Zc6{P:Addr→Prop}{K:PySem.W.Frag}:∀c∈([]:List Str),∀C,Zci K c C→P C:=fun _ h=>nomatch h
theorem Ze9{P:Addr→Prop}{K:PySem.W.Frag}{c:Str}{a:Addr}{r:List Str}(x:Zci K c a)(m:P a)(t:∀c∈r,∀C,Zci K c C→P C):∀d∈c::r,∀C,Zci K d C→P C:=fun d hd C cl=>by
 rcases List.mem_cons.mp hd with e|e
 ·subst e
  have z:=x.symm.trans cl
  cases z
  exact m
 ·exact t d e C cl
theorem Zs7{P:Str→Nat→Prop}{m:Str}{j:Nat}(h:P m j):∀n i,some (m,j)=some (n,i)→P n i:=fun _ _ e=>by cases e;exact h
@[simp] noncomputable def isxD(yes no:List Str):D→Option SV
 | .exc c _ _=>if c∈yes then some (.fz (.bl true))else if c∈no then some (.fz (.bl false))else none
 |_=>none
theorem RepN.exc{K:PySem.W.Frag}{F H:Hp}{c:Str}{ks:List Str}{vs:List D}{v:V}(le:Same F H)(h:RepN K F H (.exc c ks vs) v):∃a C dx,v= .ref a∧H a=some (.ext (Zbt a C dx))∧Zci K c C:=by
 obtain⟨sv,ns,e,n,sh,hp⟩:=h
 cases sh with
 |fz r=>cases e;cases r with|exc cl h=>exact⟨_,_,_,rfl,le _ _ h,cl⟩|exd cl h _ _ _=>exact⟨_,_,_,rfl,le _ _ h,cl⟩
 |ol r=>cases e
 |oK e' r=>cases e
 |oT kb e' r=>cases e
 |oN e' r=>cases n
 |oL _ r=>cases n
theorem Zh7{yes no:List Str}{d:D}{sv:SV}(e:isxD yes no d=some sv):∃c ks vs b,d= .exc c ks vs∧sv= .fz (.bl b)∧(b=true→c∈yes)∧(b=false→c∈no):=by
 unfold isxD at e
 split at e
 ·rename_i c ks vs
  by_cases h1:c∈yes
  ·rw[if_pos h1]at e;cases e;exact⟨c,ks,vs,true,rfl,rfl,fun _=>h1,fun z=>nomatch z⟩
  ·rw[if_neg h1]at e
   by_cases h2:c∈no
   ·rw[if_pos h2]at e;cases e;exact⟨c,ks,vs,false,rfl,rfl,(fun z=>nomatch z),fun _=>h2⟩
   ·rw[if_neg h2]at e;cases e
 ·cases e
noncomputable def Kn(K:PySem.W.Frag)(r:Addr→Bool→Prop)(yes no:List Str):Prop:=(∀c∈yes,∀C,Zci K c C→ExcKit K C∧r C true)∧∀c∈no,∀C,Zci K c C→ExcKit K C∧r C false
theorem Kn.at'{K:PySem.W.Frag}{r:Addr→Bool→Prop}{yes no:List Str}(k:Kn K r yes no){c:Str}{C:Addr}{b:Bool}(h1:b=true→c∈yes)(h2:b=false→c∈no)(cl:Zci K c C):ExcKit K C∧r C b:=by
 cases b with
 |true=>exact k.1 c (h1 rfl) C cl
 |false=>exact k.2 c (h2 rfl) C cl
theorem Zwo{c:V}{cv:Value}{yes no:List Str}(kn:Kn X.K (fun C b=>PySem.W.kitOne X.K (.ref C) cv=some b) yes no):Zo9 Z (fun x H Q=>rIsX X.K c cv [x,c] H Q) (isxD yes no):=by
 intro F H σ δ own x d sv Q s r e k
 obtain⟨c',ks,vs,b,rfl,rfl,h1,h2⟩:=Zh7 e
 obtain⟨a,C,dx,rfl,ha,cl⟩:=r.exc s.le
 obtain⟨q1,q2⟩:=kn.at' h1 h2 cl
 exact⟨a,C,dx,b,rfl,ha,q1,q2,k.fz s (.bl b)⟩
theorem Z00{x:Str}{B:Addr}{p p2:Pos}{yes no:List Str}(hm:X.mg "isinstance"=none)(hmc:X.mg x=some (.ref B))(kn:Kn X.K (fun C b=>PySem.W.kitOne X.K (.ref C) (.ref B)=some b) yes no)(ha:PE X a (Zc Z fa))
  (hg:Gl X "isinstance":=by rfl) (hgc:Gl X x:=by rfl) (hdb:(x==("__debug__":Str))=false:=by decide) (he:starEach [a,.Name x p2] X.env=(false,eval a X.env)::starEach [.Name x p2] X.env:=by rfl) (he2:starEach [.Name x p2] X.env=(false,eval (.Name x p2) X.env)::starEach [] X.env:=by rfl) (hpl:(backTo pos (starEach [.Name x p2] X.env)).any (·.1)=false:=by rfl):
  PE X (.Call (.Name "isinstance" p) [a,.Name x p2] [] pos) (Zc Z (unF (isxD yes no) fa)):=
 (Zdk (Zjr (c:=.ref B) (cv:=.ref B) fun u h=>h) hg hm boot_isinstance (Zac ha (Zac (Zgf (v:=.ref B) hgc hmc rfl hdb) Zbb he2) he) (by decide) (by decide) he hpl).imp fun σ H Q h=>l_un (Zwo (c:=.ref B) kn) h
theorem Zs8:bootBuiltins "ValueError"=some (.type "ValueError"):=by decide+kernel
theorem Zwp{x:Str}{t:String}{p p2:Pos}{yes no:List Str}(hm:X.mg "isinstance"=none)(hmc:X.mg x=none)(hv:bootBuiltins x=some (.type t))(kn:Kn X.K (fun C b=>PySem.W.kitOne X.K (.ref C) (.type t)=some b) yes no)(ha:PE X a (Zc Z fa))
  (hg:Gl X "isinstance":=by rfl) (hgc:Gl X x:=by rfl) (hn:x≠"__name__":=by decide) (hdb:(x==("__debug__":Str))=false:=by decide) (he:starEach [a,.Name x p2] X.env=(false,eval a X.env)::starEach [.Name x p2] X.env:=by rfl) (he2:starEach [.Name x p2] X.env=(false,eval (.Name x p2) X.env)::starEach [] X.env:=by rfl) (hpl:(backTo pos (starEach [.Name x p2] X.env)).any (·.1)=false:=by rfl):
  PE X (.Call (.Name "isinstance" p) [a,.Name x p2] [] pos) (Zc Z (unF (isxD yes no) fa)):=
 (Zdk (Zjr (c:=.ty t) (cv:=.type t) fun u h=>h) hg hm boot_isinstance (Zac ha (Zac (Zlt (v:=.ty t) hgc hmc hv rfl hn hdb) Zbb he2) he) (by decide) (by decide) he hpl).imp fun σ H Q h=>l_un (Zwo (c:=.ty t) kn) h
noncomputable def Zj2(Bs:List Addr):TA:=fun _ H R=>R (Bs.map V.ref) H
theorem Zwq:PA X [] (Zj2 []):=Zbb.imp fun _ _ _ h=>h
theorem Zdt{x:Str}{B:Addr}{p:Pos}{es:List Expr}{Bs:List Addr}(hmc:X.mg x=some (.ref B))(t:PA X es (Zj2 Bs))(hg:Gl X x:=by rfl)(hdb:(x==("__debug__":Str))=false:=by decide)(hs:starEach (.Name x p::es) X.env=(false,eval (.Name x p) X.env)::starEach es X.env:=by rfl):PA X (.Name x p::es) (Zj2 (B::Bs)):=
 (Zac (Zgf (v:=.ref B) hg hmc rfl hdb) t hs).imp fun _ _ _ h=>h
theorem Zwr{es:List Expr}{Bs:List Addr}{p p2:Pos}{k2:Nat}{yes no:List Str}(hm:X.mg "isinstance"=none)(hn:PA X es (Zj2 Bs))(kn:Kn X.K (fun C b=>PySem.W.kitAny X.K (.ref C) (Bs.map Value.ref)=some b) yes no)(ha:PE X a (Zc Z fa))(hz:Bs.length≤1000:=by exact Nat.le_of_ble_eq_true rfl)
  (hg:Gl X "isinstance":=by rfl) (he:starEach [a,.Tuple es k2 p2] X.env=(false,eval a X.env)::starEach [.Tuple es k2 p2] X.env:=by rfl) (he2:starEach [.Tuple es k2 p2] X.env=(false,eval (.Tuple es k2 p2) X.env)::starEach [] X.env:=by rfl) (hpl:(backTo pos (starEach [.Tuple es k2 p2] X.env)).any (·.1)=false:=by rfl):
  PE X (.Call (.Name "isinstance" p) [a,.Tuple es k2 p2] [] pos) (Zc Z (unF (isxD yes no) fa)):=
 (Zdk (Zmj (Bs:=Bs)) hg hm boot_isinstance (Zac ha (Zac (Zqi hn) Zbb he2) he) (by decide) (by decide) he hpl).imp fun σ H Q h=>by
  obtain⟨F,δ,own,rv,δ',s,e,k⟩:=h
  obtain⟨⟨rvs,δ1⟩,e1,e2⟩:=Option.bind_eq_some_iff.mp e
  obtain⟨ds,e3,e4⟩:=Option.bind_eq_some_iff.mp e2
  obtain⟨sv,e5,e6⟩:=Option.bind_eq_some_iff.mp e4
  cases e6
  obtain⟨⟨rv1,δ2⟩,e7,e8⟩:=Option.bind_eq_some_iff.mp e1
  obtain⟨⟨rr',δ4⟩,e9,e10⟩:=Option.bind_eq_some_iff.mp e8
  cases e10
  cases e9
  obtain⟨d,e11,e12⟩:=Option.bind_eq_some_iff.mp e3
  cases e12
  refine⟨F,δ,own,rv1,δ2,s,e7,fun v H1 F1 own1 sH sF s1 r1=>?_⟩
  obtain⟨F2,sF2,s2,r2⟩:=s1.settleR r1
  have rn:=s2.rd r2 e11
  obtain⟨c',ks,vs,b,rfl,rfl,h1,h2⟩:=Zh7 e5
  obtain⟨a1,C,dx,rfl,ha1,cl⟩:=rn.exc s2.le
  obtain⟨q1,q2⟩:=kn.at' h1 h2 cl
  refine⟨by rw[List.length_map];exact Nat.le_trans hz (Nat.le_of_lt (Zma (Nat.le_refl _))),fun p hp=>?_⟩
  have sm:=Zbo (o:=.tup (Bs.map V.ref)) hp
  exact⟨a1,C,dx,p,b,rfl,sm _ _ ha1,q1,Zab,q2,k (.bl b) _ F2 own1 (sH.trans sm) (sF.trans sF2) (s2.grow sm) ⟨[],.fz (.bl b)⟩⟩
end
end DL
namespace DL
open PySem PySem.Spec PyProof.Rows L2
section
variable{X:Cx}{pins:List (Addr×Obj)}{σ:L2.St}{H:Hp}{s:Shared}
noncomputable def Z2z(trs:List (TE×TE)):TE:=fun σ H Q=>Zjm trs σ H fun ps H2=>∃kvs:List (Key×V),ps=kvs.map (fun kv=>(kV kv.1,kv.2))∧kvs.length≤15∧∀p ep,H2 p=none→Q (.ref p) (upd H2 p (.dK (Zql [] kvs) ep))
end
section
variable{K:PySem.W.Frag}{Z:Ent K}{σ:L2.St}{H:Hp}{Q:VK}
noncomputable def tPD(Z:Ent K)(l:List (Str×FE)):List (TE×TE):=l.map fun p=>(tC (.str p.1),Zc Z p.2)
@[simp] noncomputable def Zq0:List (Str×FE)→FD
 | []=>Z6
 |p::r=>Zt p.2 (Zq0 r)
@[simp] noncomputable def Z20(l:List (Str×FE)):FE:=fun δ=>(Zq0 l δ).bind fun p=>if p.1.length=l.length then some (.tmp (.oK (l.map fun q=>.inr q.1) p.1),p.2)else none
@[simp] noncomputable def minD:List D→Option SV
 | [.int i,.int j]=>some (.fz (.int (if j<i then j else i)))
 |_=>none
end
section
variable{X:Cx}{Z:Ent X.K}{a b c:Expr}{fa fb fc:FE}{pos:Pos}
theorem Z01:Zfe Z (fun xs H Q=>∃i j,xs=[.int i,.int j]∧Q (.int (if j<i then j else i)) H) minD:=by
 intro F H σ δ own vs ds sv Q s rs e f
 unfold minD at e
 split at e
 ·cases e
  cases rs with
  |cons h1 t1=>
   cases t1 with
   |cons h2 t2=>
    cases t2
    rw[h1.int,h2.int]
    exact⟨_,_,rfl,f.fz s (.int _)⟩
 ·cases e
theorem Z02{p:Pos}(hm:X.mg "min"=none)(hc:X.calm=true)(ha:PE X a (Zc Z fa))(hb:PE X b (Zc Z fb))(hg:Gl X "min":=by rfl)(he:starEach [a,b] X.env=(false,eval a X.env)::starEach [b] X.env:=by rfl)(he2:starEach [b] X.env=(false,eval b X.env)::starEach [] X.env:=by rfl)(hpl:(backTo pos (starEach [b] X.env)).any (·.1)=false:=by rfl):
  PE X (.Call (.Name "min" p) [a,b] [] pos) (Zc Z (Zao minD (Zb fa (Zb fb Zj)))):=Zi3 (Zl1 hc) Z01 hm boot_min (Zx ha (Zx hb Zbh he2) he) hg (by decide) (by decide) he hpl
end
end DL
namespace DL
open PySem PySem.Spec PyProof.Rows L2
@[simp] noncomputable def Zc7(ss:List Str)(fd:FD):FD:=fun δ=>(fd δ).bind fun p=>some (ss.map D.str++p.1,p.2)
theorem Zs9{K:PySem.W.Frag}{Z:Ent K}{σ:L2.St}{H:Hp}{fd:FD}:∀(ss:List Str) {R:List V→Hp→Prop},Zd6 Z (Zc7 ss fd) σ H R→Zd6 Z fd σ H fun vs H'=>R (ss.map V.str++vs) H'
 |ss,R,h=>by
  obtain⟨F,δ,own,ds,δ',s,e,k⟩:=h
  obtain⟨⟨ds1,δ1⟩,e1,e2⟩:=Option.bind_eq_some_iff.mp e
  cases e2
  refine⟨F,δ,own,ds1,δ1,s,e1,fun vs H' F' own' a b c r=>k _ H' F' own' a b c ?_⟩
  exact Reps.append (strs_rep ss) r
where strs_rep {F:Hp}:∀ss:List Str,Reps K F (ss.map D.str) (ss.map V.str)
 | []=>.nil
 |x::r=>.cons (.str x) (strs_rep r)
section
variable{X:Cx}{Z:Ent X.K}{pos:Pos}
noncomputable abbrev cst(x:Str×Nat×Pos):Expr:=.Constant (.str x.1) x.2.1 x.2.2
theorem Zj3{es:List Expr}{t:TA}(h:PA X es t):∀l:List (Str×Nat×Pos),PA X (l.map cst++es) fun σ H R=>t σ H fun vs H'=>R ((l.map fun x=>V.str x.1)++vs) H'
 | []=>h
 |x::r=>(Zac (e:=cst x) (es:=r.map cst++es) Zls (Zj3 h r) rfl).imp fun σ H R q=>q
theorem Zcm{es:List Expr}{fd:FD}(l:List (Str×Nat×Pos))(h:PA X es (Zd6 Z fd)):PA X (l.map cst++es) (Zd6 Z (Zc7 (l.map (·.1)) fd)):=
 (Zj3 h l).imp fun σ H R q=>by
  have:=Zs9 (l.map (·.1)) q
  rw[List.map_map]at this
  exact this
end
end DL
namespace DL
open PySem PySem.Spec PyProof.Rows L2
section
variable{K:PySem.W.Frag}
inductive RC where
 |v (δ:DSt)|x (e:Exn)
noncomputable def xX(K:PySem.W.Frag)(f:FX)(EX:EXT):TE:=fun σ H Q=>∃Z:Ent K,Z.x=EX∧Zc4 Z f σ H Q
@[simp] noncomputable def Zm8(src:List BSrc)(k:Nat)(g:FG)(tt:FT)(te:FX):List D→DSt→Option RC
 | [],δ=>some (.v δ)
 |d::ds,δ=>(g.run d δ).bind fun δ1=>(tt δ1).bind fun p=>if p.1=true then(te p.2).bind (fun
  | .x e _=>some (.x e)
  | .v rv δ2=>(frz rv δ2).bind fun r=>match r.2[k]? with
   |some (some (.ol zs))=>if zs.length<PySem.sizeLine then Zm8 src k g tt te ds (Zej src (r.2.set k (some (.ol (zs++[r.1])))))else none
   |_=>none)
  else Zm8 src k g tt te ds (Zej src p.2)
@[simp] noncomputable def Z4c(src:List BSrc)(k:Nat)(fi:FD)(g:FG)(tt:FT)(te:FX):FX:=fun δ=>(fi δ).bind fun p=>(frzAll (caps src) p.2).bind fun c=>(Zm8 src k g tt te p.1 (bD src c.2)).bind fun
 | .x e=>some (.x e c.2)
 | .v δb=>match δb[k]? with
  |some (some (.ol ys))=>some (.v (.tmp (.ol ys)) c.2)
  |_=>none
end
section
variable{X:Cx}{Z:Ent X.K}{pos:Pos}
theorem Zta{body:List Stmt}{fb f:FS}{x n:Str}{i:Nat}{np hp:Pos}{b0:Stmt}{suite:List Stmt}{B:Addr}{yes no:List Str}(hb:∀pn xe EX,Zdq (X.inTry pn xe) EX→PSs (X.inTry pn xe) body (Zv (Z.wish EX) fb))(mg:X.mg x=some (.ref B))
  (ck:PySem.W.typeIn X.K (.ref B)=some (.type "type")∧PySem.W.isClsIn X.K B=true∧PySem.W.mroIn X.K B (.type "BaseException")=some true) (nd:X.N.Nodup) (su:∀a,PSs (X.inSuite a) (b0::suite) (Zv Z f))
  (hy:∀c∈yes,∀C,Zci X.K c C→PySem.W.mroIn X.K C (.ref B)=some true) (hn:∀c∈no,∀C,Zci X.K c C→PySem.W.mroIn X.K C (.ref B)=some false)
  (ni:X.N[i]? =some n:=by rfl) (lc:X.env.scope.names.lookup n=some .local:=by rfl) (gl:Gl X x:=by rfl) (db:(x==("__debug__":Str))=false:=by decide) (hex:X.ex=[]:=by rfl) (hst:X.stack=X.env::X.outer:=by rfl) (hfr:X.env.frame=some X.env.locals:=by rfl):
  PS X (.Try body [.ExceptHandler (some (.Name x np)) (some n) (b0::suite) hp] [] [] pos) (Zv Z (tryF fb [⟨some i,yes,no,f⟩])):=
 Z0z (h0:=⟨x,np,some (n,i),b0,suite,hp,B,yes,no,f⟩) (hs:=[]) hb (Zm7 ⟨gl,mg,ck.1,ck.2.1,ck.2.2,db,Zs7 ⟨nd,ni,.inl lc,lc,lc⟩,su⟩) (Zm7 ⟨hy,hn⟩) hex hst hfr
end
end DL
namespace L2
open PySem PySem.Spec PyProof.Rows
noncomputable def Zws{α:Type}(xs:List α)(lo hi st:Option Int):List α:=
 (sliceRange (sliceBounds lo hi st xs.length).1 (sliceBounds lo hi st xs.length).2.1 (sliceBounds lo hi st xs.length).2.2).filterMap (xs[·]?)
section
variable{X:Cx}{e st:Expr}{te:TE}{lo hi:Option Expr}{tl th ts:TO}{pos p2:Pos}
noncomputable def SlR3(X:Cx)(r:V→Option Int→Option Int→Option Int→Hp→VK→Prop):Prop:=
 ∀(pins:List (Addr×Obj)) (s:Shared) (σ:St) (H:Hp) (x:V) (v vl vu vs:Value) (lo hi st:Option Int) (sl:Addr) (Q:VK),Inv X pins σ H s→RelV x v→s.heap.IsSliceOf sl vl vu vs→IsPart vl lo→IsPart vu hi→IsPart vs st→r x lo hi st H Q→
  ∃T id,typeLookup (.type T) "__getitem__"=pure (some (.builtin id))∧s.TypeIs v T∧wpAny (model X.prog X.w) X.A (getItem v (.ref sl)) (EP X pins σ Q) X.xe s
noncomputable def tSl3(r:V→Option Int→Option Int→Option Int→Hp→VK→Prop)(te:TE)(tl th ts:TO):TE:=fun σ H Q=>te σ H fun x H1=>tl σ H1 fun l H2=>th σ H2 fun u H3=>ts σ H3 fun w H4=>r x l u w H4 Q
noncomputable def rSl3(K:PySem.W.Frag):V→Option Int→Option Int→Option Int→Hp→VK→Prop:=fun x lo hi st H Q=>∃a xs,x= .ref a∧SqL K H a xs∧st≠some 0∧∀p,H p=none→Q (.ref p) (upd H p (.lst (Zws xs lo hi st)))
end
end L2
namespace DL
open PySem PySem.Spec PyProof.Rows L2
@[simp] noncomputable def slF3(g:D→Option Int→Option Int→Option Int→Option SV)(fe:FE)(fl fh fs:FO):FE:=fun δ=>(fe δ).bind fun p=>(fl p.2).bind fun l=>(fh l.2).bind fun h=>(fs h.2).bind fun w=>(rdv p.1 w.2).bind fun d=>(g d l.1 h.1 w.1).bind fun sv=>some (.tmp sv,w.2)
section
variable{K:PySem.W.Frag}{Z:Ent K}{H:Hp}{σ:L2.St}{Q:VK}
noncomputable def Z21(Z:Ent K)(r:V→Option Int→Option Int→Option Int→Hp→VK→Prop)(g:D→Option Int→Option Int→Option Int→Option SV):Prop:=
 ∀(F H:Hp) (σ:L2.St) (δ:DSt) (own:Nat→Zp) (x:V) (d:D) (lo hi st:Option Int) (sv:SV) (Q:VK),SR Z F H σ δ own→RepN K F H d x→g d lo hi st=some sv→Fin Z F H σ δ own sv Q→r x lo hi st H Q
@[simp] noncomputable def slD3:D→Option Int→Option Int→Option Int→Option SV
 | .lst xs,lo,hi,st=>if st≠some 0 then some (.ol (Zws xs lo hi st))else none
 |_,_,_,_=>none
end
end DL
namespace DL
section
variable{α:Type}{P:List α→Prop}
@[elab_as_elim] theorem of0(h:P [])(us:List α)(hl:us.length=0):P us:=by
 have:us=[]:=List.eq_nil_of_length_eq_zero hl
 rw[this];exact h
@[elab_as_elim] theorem of1(h:∀a,P [a])(us:List α)(hl:us.length=1):P us:=by
 obtain⟨a,e⟩:=List.length_eq_one_iff.mp hl
 rw[e];exact h a
theorem ofC{n:Nat}(h:∀a (us:List α),us.length=n→P (a::us))(us:List α)(hl:us.length=n+1):P us:=by
 cases us with
 |nil=>exact absurd hl (by simp)
 |cons a r=>exact h a r (by simpa using hl)
@[elab_as_elim] theorem of2(h:∀a b,P [a,b])(us:List α)(hl:us.length=2):P us:=ofC (fun a=>of1 (P:=fun us=>P (a::us)) (h a)) us hl
@[elab_as_elim] theorem of3(h:∀a b c,P [a,b,c])(us:List α)(hl:us.length=3):P us:=ofC (fun a=>of2 (P:=fun us=>P (a::us)) (h a)) us hl
@[elab_as_elim] theorem of4(h:∀a b c d,P [a,b,c,d])(us:List α)(hl:us.length=4):P us:=ofC (fun a=>of3 (P:=fun us=>P (a::us)) (h a)) us hl
@[elab_as_elim] theorem of5(h:∀a b c d e,P [a,b,c,d,e])(us:List α)(hl:us.length=5):P us:=ofC (fun a=>of4 (P:=fun us=>P (a::us)) (h a)) us hl
@[elab_as_elim] theorem of6(h:∀a b c d e f,P [a,b,c,d,e,f])(us:List α)(hl:us.length=6):P us:=ofC (fun a=>of5 (P:=fun us=>P (a::us)) (h a)) us hl
end
end DL
namespace L2
open PySem PySem.Spec PyProof.Rows
section
variable{prog:Program}{w:World}{A:Around}{E:Value→Shared→Prop}{s:Shared}{q d:Addr}{i n ep:Nat}{od:Obj}{es:Array DictEntry}
end
noncomputable def Itk(a:Addr)(n ep:Nat):It:=
 ⟨fun i H=>∃kvs,H a=some (.dK kvs ep)∧kvs.length=n∧i<n,fun i H x H'=>H'=H∧∃kvs kv,H a=some (.dK kvs ep)∧kvs[i]? =some kv∧x=kV kv.1,fun i H=>∃kvs,H a=some (.dK kvs ep)∧kvs.length=n∧n≤i⟩
noncomputable def Itd(a:Addr)(n ep:Nat):It:=
 ⟨fun i H=>∃kvs bs,H a=some (.dT kvs ep bs)∧kvs.length=n∧i<n,fun i H x H'=>H'=H∧∃kvs bs b,H a=some (.dT kvs ep bs)∧bs[i]? =some b∧x= .ref b,fun i H=>∃kvs bs,H a=some (.dT kvs ep bs)∧kvs.length=n∧n≤i⟩
section
variable{X:Cx}{tg:Expr}
noncomputable def iDic(tl:TE):TI:=fun σ H R=>tl σ H fun x H1=>(∃a kvs ep,x= .ref a∧H1 a=some (.dK kvs ep)∧R (Itk a kvs.length ep) H1)∨(∃a kvs ep bs,x= .ref a∧H1 a=some (.dT kvs ep bs)∧R (Itd a kvs.length ep) H1)
end
end L2
namespace DL
open PySem PySem.Spec PyProof.Rows L2
variable{K:PySem.W.Frag}
@[simp] noncomputable def keyD:Key→D
 | .inl i=>.int i
 | .inr x=>.str x
section
variable{Z:Ent K}{H:Hp}{σ:L2.St}
@[simp] noncomputable def dicI(fe:FE):FD:=fun δ=>(fe δ).bind fun p=>(frz p.1 p.2).bind fun q=>match q.1 with
 | .dK ks _=>some (ks.map keyD,q.2)
 | .dT ks _=>some (ks.map fun k=>D.tup (k.map keyD),q.2)
 |_=>none
end
end DL
namespace DL
open PySem PySem.Spec PyProof.Rows L2
variable{K:PySem.W.Frag}
@[simp] noncomputable def inW(d1 d2:D):Option SV:=match d2.seq? with
 |some xs=>if d1.isFlat=true∧xs.all D.isFlat=true then some (.fz (.bl (inFl d1 xs)))else none
 |none=>inD d1 d2
@[simp] noncomputable def Z22(d1 d2:D):Option SV:=match d2.seq? with
 |some xs=>if d1.isFlat=true∧xs.all D.isFlat=true then some (.fz (.bl (!inFl d1 xs)))else none
 |none=>Zqv d1 d2
section
variable{Z:Ent K}
theorem Zwt:Zbg Z (fun x y H Q=>(∃i j,x= .str i∧y= .str j∧Q (.bl (!(Builtin.Str.occurrences j i 0 j.length 1).isEmpty)) H)∨rIn K false x y H Q) inW:=by
 intro F H σ δ own x y d1 d2 sv Q s r1 r2 e k
 unfold inW at e
 split at e
 ·rename_i xs hx
  split at e
  ·rename_i hf
   cases e
   obtain⟨a,vs,rfl,hq,rr⟩:=Zwg s.le r2 hx
   obtain⟨e1,f1⟩:=Zsx r1 hf.1
   obtain⟨e2,f2⟩:=Zm2 rr hf.2
   refine .inr ⟨a,vs,rfl,hq,f1,f2,?_⟩
   rw[e1,e2,Zsy]
   exact k.fz s (.bl _)
  ·cases e
 ·exact .inl (p_in F H σ δ own x y d1 d2 sv Q s r1 r2 e k)
end
section
variable{X:Cx}{Z:Ent X.K}{a b:Expr}{fa fb:FE}{pos:Pos}
theorem Z03(hu:X.A.units+1<cLine)(ha:PE X a (Zc Z fa))(hb:PE X b (Zc Z fb))(hm:behindInMarks .In b=false:=by rfl):PE X (.Compare a [.In] [b] pos) (Zc Z (binF inW fa fb)):=Zv1 (Zg9.or Zhi) Zwt ha hb hm
theorem Zwu(hu:X.A.units+1<cLine)(ha:PE X a (Zc Z fa))(hb:PE X b (Zc Z fb))(hm:behindInMarks .In b=false:=by rfl):PT X (.Compare a [.In] [b] pos) (Zar Z (Zz (binF inW fa fb))):=Zk7 (Zg9.or Zhi) Zwt ha hb hm
end
end DL
namespace L2
open PySem PySem.Spec PyProof.Rows
section
variable{prog:Program}{w:World}{A:Around}{E:Value→Shared→Prop}{s:Shared}{a b:Addr}{xs ys:List (List Key×Addr×Value)}
end
section
variable{X:Cx}
noncomputable def rEqT:R2:=fun x y H Q=>∃a b kvs,x= .ref a∧y= .ref b∧HTt H a kvs∧HTt H b kvs∧(∀p∈kvs,Zav p.2=true)∧Q (.bl true) H
end
end L2
namespace DL
open PySem PySem.Spec PyProof.Rows L2
variable{K:PySem.W.Frag}
noncomputable def Z04(ks ks':List (List Key))(vs vs':List D):Bool:=@decide (ks=ks'∧vs=vs'∧vs.all D.isFlat=true) (Classical.propDecidable _)
@[simp] noncomputable def eqTD(d1 d2:D):Option SV:=match d1,d2 with
 | .dT ks vs,.dT ks' vs'=>if Z04 ks ks' vs vs'=true then some (.fz (.bl true))else none
 |_,_=>none
section
variable{Z:Ent K}
end
section
variable{X:Cx}{Z:Ent X.K}{a b:Expr}{fa fb:FE}{pos:Pos}
end
end DL
namespace DL
open PySem PySem.Spec PyProof.Rows L2
theorem Zm9{P:Program}{w:World}{K:PySem.W.Frag}{mg:Str→Option Value}{base:Heap}{CX:CXT}{k n:Nat}{f:Addr}{fd:FuncData}{ps:List Str}:FnOk P w K mg base CX k f fd ps (spOf K n fun _=>none):=by
 refine⟨fun vs H Q E h=>?_,fun A outer s H args us vs Q E hr he hb hv h=>?_⟩
 ·obtain⟨F,ds,sv,_,_,_,e,_⟩:=h;cases e
 ·obtain⟨F,ds,sv,_,_,_,e,_⟩:=h;cases e
end DL
namespace DL
open PySem PySem.Spec PyProof.Rows L2
variable{K:PySem.W.Frag}
theorem Z05{a:Addr}:∀b,(none:Option Addr)=some b→b=a:=fun _ h=>nomatch h
theorem Zpv{F:Hp}{pin:Option Addr}{xss:List (List D)}{v:V}{ns:Zp}(h:Shape K F (.oL pin xss) v ns):∃a ws ns',v= .ref a∧ns=(a,.lst ws)::ns'∧Kids K F xss ws ns'∧∀b,pin=some b→b=a:=by
 cases h with
 |oL hp r=>exact⟨_,_,_,rfl,rfl,r,hp⟩
@[simp] noncomputable def Zna(src:List BSrc)(k:Nat)(g:FG)(tt:FT)(te:FE):List D→DSt→Option DSt
 | [],δ=>some δ
 |d::ds,δ=>(g.run d δ).bind fun δ1=>(tt δ1).bind fun p=>if p.1=true then(te p.2).bind fun q=>match q.1,q.2[k]? with
   | .tmp (.ol xs),some (some (.oL none zs))=>if zs.length<PySem.sizeLine then Zna src k g tt te ds (Zej src (q.2.set k (some (.oL none (zs++[xs])))))else none
   |_,_=>none
  else Zna src k g tt te ds (Zej src p.2)
@[simp] noncomputable def Z23(src:List BSrc)(k:Nat)(fi:FD)(g:FG)(tt:FT)(te:FE):FE:=fun δ=>(fi δ).bind fun p=>(frzAll (caps src) p.2).bind fun c=>(Zna src k g tt te p.1 ((bD src c.2).set k (some (.oL none [])))).bind fun δb=>match δb[k]? with
 |some (some (.oL none ys))=>some (.tmp (.oL none ys),c.2)
 |_=>none
theorem Kids.take{F:Hp}:∀{xss:List (List D)} {ws:List V} {ns:Zp} (n:Nat),Kids K F xss ws ns→Kids K F (xss.take n) (ws.take n) (ns.take n)
 |_,_,_,0,_=>.nil
 |_,_,_,_+1,.nil=>.nil
 |_,_,_,n+1,.cons r t=>.cons r (t.take n)
section
variable{Z:Ent K}{H:Hp}{σ:L2.St}{Q:VK}{E:Ends}
noncomputable def Zwv(i p q:Nat):FE:=fun δ=>match δ[i]?,δ[p]?,δ[q]? with
 |some (some (.oL none xss)),some (some (.fz (.int n))),some (some (.fz (.lst xs)))=>if 0≤n∧n.toNat≤xss.length∧xss.length+1≤PySem.sizeLine then some (.tmp (.oL none (xss.take n.toNat++[xs]++xss.drop n.toNat)),δ.set i none)else none
 |_,_,_=>none
@[simp] theorem Zy1{i p q:Nat}{δ:DSt}{xss:List (List D)}{n:Nat}{xs:List D}(hi:δ[i]? =some (some (.oL none xss)))(hp:δ[p]? =some (some (.fz (.int (n:Nat)))))(hq:δ[q]? =some (some (.fz (.lst xs))))(hn:n≤xss.length)(hz:xss.length+1≤PySem.sizeLine):
  Zwv i p q δ=some (.tmp (.oL none (xss.take n++[xs]++xss.drop n)),δ.set i none):=by
 unfold Zwv
 rw[hi,hp,hq]
 dsimp only
 rw[if_pos ⟨by omega,by omega,hz⟩,Int.toNat_natCast]
noncomputable abbrev rLst(K:PySem.W.Frag):List V→Hp→VK→Prop:=fun xs H Q=>∃p ys,xs=[V.ref p]∧(SqL K H p ys∨SqT K H p ys)∧∀l,H l=none→Q (.ref l) (upd H l (.lst ys))
@[simp] noncomputable def apT(c:Str)(n:Nat)(xss:List (List D)):List (List D):=(xss.take n).map (· ++[.str c])++xss.drop n
noncomputable def Znb(i j:Nat)(c:Str):FS:=fun δ=>match δ[i]? with
 |some (some (.oL none xss))=>if i≠j∧j<δ.length∧(∀xs∈xss,xs.length<PySem.sizeLine)then some (.nx ((δ.set j none).set i (some (.oL none (xss.map (· ++[.str c]))))))else none
 |_=>none
@[simp] theorem Zuf{i j:Nat}{c:Str}{δ:DSt}{xss:List (List D)}(hi:δ[i]? =some (some (.oL none xss)))(hij:i≠j)(hj:j<δ.length)(hz:∀xs∈xss,xs.length<PySem.sizeLine):Znb i j c δ=some (.nx ((δ.set j none).set i (some (.oL none (xss.map (· ++[.str c])))))):=by
 unfold Znb
 rw[hi]
 dsimp only
 rw[if_pos ⟨hij,hj,hz⟩]
noncomputable def Znc(i:Nat):FS:=fun δ=>match δ[i]? with
 |some (some (.oL none _))=>some (.nx (δ.set i (some (.ol []))))
 |_=>none
@[simp] theorem Zug{i:Nat}{δ:DSt}{xss:List (List D)}(hi:δ[i]? =some (some (.oL none xss))):Znc i δ=some (.nx (δ.set i (some (.ol [])))):=by unfold Znc;rw[hi]
end
end DL
namespace DL
open PySem PySem.Spec PyProof.Rows L2
section
variable{X:Cx}{Z:Ent X.K}{a b c:Expr}{fa fb fc:FE}{pos:Pos}
theorem Zh8(i:Nat){x:Str}{pos:Pos}(hN:X.N[i]? =some x:=by rfl)(hv:Vis X.env.scope x:=by first|exact Or.inl rfl|exact Or.inr (Or.inl rfl)|exact Or.inr (Or.inr rfl))(hd:(x==("__debug__":Str))=false:=by decide)
  (hcd:(x==("__classdict__":Str))=false:=by decide):PE X (.Name x pos) (tVar i):=Zg6 hN hv hd hcd
end
end DL
namespace DL
open PySem PySem.Spec PyProof.Rows L2
variable{K:PySem.W.Frag}
noncomputable def Z06(K:PySem.W.Frag)(C:Addr)(f:Str):Sp:=fun vs H Q _=>∃e p ys,vs=[.ref e,.ref p]∧H e=some (.ext (Zeu e C none))∧(SqL K H p ys∨SqT K H p ys)∧
 ∀l,H l=none→∀dx,upd H l (.lst ys) dx=none→Q .non (upd (upd (upd H l (.lst ys)) dx (.xd [(f,.ref l)])) e (.ext (Zeu e C (some dx))))
noncomputable def Z07(C:Addr)(f:Str):Sp:=fun vs H Q _=>∃e v,vs=[.ref e,v]∧H e=some (.ext (Zeu e C none))∧
 ∀dx,H dx=none→Q .non (upd (upd H dx (.xd [(f,v)])) e (.ext (Zeu e C (some dx))))
section
variable{Z:Ent K}{H:Hp}{σ:L2.St}{E:Ends}{Q:VK}
@[simp] noncomputable def Z24(c f:Str)(fe:FE):FS:=fun δ=>(fe δ).bind fun p=>(frz p.1 p.2).bind fun q=>match q.1 with
 | .lst ds=>some (.ex ⟨c,[f],[.lst ds]⟩ q.2)
 |_=>none
@[simp] noncomputable def Z25(c f:Str)(fe:FE):FS:=fun δ=>(fe δ).bind fun p=>(frz p.1 p.2).bind fun q=>some (.ex ⟨c,[f],[q.1]⟩ q.2)
@[simp] noncomputable def Z4d(cs:List Str)(f:Str):D→Option SV
 | .exc c ks vs=>if c∈cs then((ks.zip vs).lookup f).bind fun d=>some (.fz d)else none
 |_=>none
end
section
variable{X:Cx}{Z:Ent X.K}{a b c:Expr}{fa fb fc:FE}{pos:Pos}
end
end DL
namespace DL
open PySem PySem.Spec PyProof.Rows L2
variable{K:PySem.W.Frag}
noncomputable abbrev Zq1(H:Hp)(bs:List Addr)(xss:List (List Str)):Prop:=Paired (fun(b:Addr) (xs:List Str)=>H b=some (.tup (xs.map V.str))) bs xss
open Classical in
noncomputable def eqT(H:Hp)(ss:List Str):Value→Bool:=fun w=>decide (∃b,w= .ref b∧H b=some (.tup (ss.map V.str)))
section
variable{X:Cx}{pins:List (Addr×Obj)}{σ:L2.St}{H:Hp}{s:Shared}
noncomputable def rInP(K:PySem.W.Frag)(neg:Bool):R2:=fun x y H Q=>∃b ss a bs xss,x= .ref b∧H b=some (.tup (ss.map V.str))∧y= .ref a∧SqL K H a (bs.map V.ref)∧Zq1 H bs xss∧Q (.bl (if neg then !(xss.any fun xs=>decide (xs=ss))else xss.any fun xs=>decide (xs=ss))) H
noncomputable def Z08(K:PySem.W.Frag):V→List V→Hp→VK→Prop:=fun x xs H Q=>∃b ss a bs xss j,xs=[.ref b]∧H b=some (.tup (ss.map V.str))∧x= .ref a∧SqL K H a (bs.map V.ref)∧Zq1 H bs xss∧(xss.findIdx? fun xs=>decide (xs=ss))=some j∧Q (.int (j:Nat)) H
end
@[simp] noncomputable def tl?:List D→Option (List (List Str))
 | []=>some []
 | .tup ds::r=>(strs? ds).bind fun x=>(tl? r).bind fun t=>some (x::t)
 |_=>none
@[simp] noncomputable def inP:D→D→Option SV
 | .tup a,.lst xs=>(strs? a).bind fun ss=>(tl? xs).bind fun xss=>some (.fz (.bl (xss.any fun x=>decide (x=ss))))
 |_,_=>none
@[simp] noncomputable def Z26:D→D→Option SV
 | .tup a,.lst xs=>(strs? a).bind fun ss=>(tl? xs).bind fun xss=>some (.fz (.bl (!(xss.any fun x=>decide (x=ss)))))
 |_,_=>none
@[simp] noncomputable def Z27:List D→Option SV
 | [.lst xs,.tup a]=>(strs? a).bind fun ss=>(tl? xs).bind fun xss=>(xss.findIdx? fun x=>decide (x=ss)).bind fun j=>some (.fz (.int (j:Nat)))
 |_=>none
section
variable{Z:Ent K}
end
section
variable{X:Cx}{Z:Ent X.K}{a b c:Expr}{fa fb fc:FE}{pos:Pos}
end
end DL
namespace DL
open PySem PySem.Spec PyProof.Rows L2
variable{K:PySem.W.Frag}
section
variable{Z:Ent K}{H:Hp}{σ:L2.St}{Q:VK}
@[simp] noncomputable def Z4e(k0:Str)(f0:FE)(j:Nat)(f1:FE):FE:=fun δ=>match δ[j]? with
 |some (some (.fz (.str x)))=>(Zt f0 (Zt f1 Z6) δ).bind fun p=>match p.1 with
  | [v0,v1]=>if k0=x then none else some (.tmp (.oK [.inr k0,.inr x] [v0,v1]),p.2)
  |_=>none
 |_=>none
end
section
variable{X:Cx}{Z:Ent X.K}{a b c:Expr}{fa fb fc:FE}{pos:Pos}
end
end DL
namespace L2
open PySem PySem.Spec PyProof.Rows
section
variable{X:Cx}
theorem Zh9{x:V}:∀{xs:List V} {us:List Value},Vals xs us→xs.all Zav=true→us.countP (eqU x)=xs.countP fun y=>eqV y x
 |_,_,.nil,_=>rfl
 |y::xs,u::us,.cons r t,f=>by
  rw[List.all_cons,Bool.and_eq_true]at f
  rw[List.countP_cons,List.countP_cons,Zl7 r f.1,Zh9 t f.2]
noncomputable def Znd(K:PySem.W.Frag):V→List V→Hp→VK→Prop:=fun x xs H Q=>∃p ys y,x= .ref p∧xs=[y]∧SqL K H p ys∧Zav y=true∧ys.all Zav=true∧Q (.int ((ys.countP fun z=>eqV z y):Nat)) H
theorem Zpw:MtR X "list.count" (Znd X.K):=by
 intro pins s σ H x xs v us Q I rx rs h
 obtain⟨p,ys,y,rfl,rfl,hq,fy,fs,q⟩:=h
 cases rx
 obtain⟨u,rfl,ru⟩:=Zfw rs
 obtain⟨its,r,⟨⟨cls,dd,data,sl⟩,n,e,hc,hdd,hd⟩,hz⟩:=I.list hq
 simp only at hc hdd hd
 subst hc hd
 rw[←Zh9 r fs]at q
 exact call_meets PySem.F.slot_list_count ⟨_,e,rfl⟩ PySem.F.entry_list_count (PySem.F.args_list_count_2 _ _) (PySem.SeqAt.list_countAt p its.toArray n dd sl u (eqU y)) ⟨e,fun w hw=>Ze6 ru fy r fs w (by simpa using hw),.int _,H,I.tok _,⟨_,rfl⟩,q⟩
noncomputable def Zq2:V→List V→Hp→VK→Prop:=fun x xs H Q=>∃a b i,x= .str a∧xs=[.str b,.int i]∧Q (.int (Txt.find3 a b i)) H
theorem Zpx:MtR X "str.find" Zq2:=by
 intro pins s σ H x xs v us Q I rx rs h
 obtain⟨a,b,i,rfl,rfl,q⟩:=h
 obtain⟨t,rfl⟩:=rx
 cases rs with
 |cons r1 t1=>cases t1 with
  |cons r2 t2=>
   cases t2
   obtain⟨t',rfl⟩:=r1
   obtain⟨t2',rfl⟩:=r2
   exact SC.find3 ⟨.int _,H,I.tok _,⟨_,rfl⟩,q⟩
end
end L2
namespace DL
open PySem PySem.Spec PyProof.Rows L2
variable{K:PySem.W.Frag}
section
variable{Z:Ent K}{H:Hp}{σ:L2.St}{Q:VK}{E:Ends}
@[simp] noncomputable def Za8:List D→Option SV
 | [.lst xs,x]=>if x.isFlat=true∧xs.all D.isFlat=true then some (.fz (.int ((xs.countP fun y=>eqFl y x):Nat)))else none
 |_=>none
theorem Ztb:Zmr Z (Znd K) Za8:=by
 intro F H σ δ own vs ds sv Q s r e k
 unfold Za8 at e
 split at e
 ·rename_i xs x
  split at e
  ·rename_i hf
   cases e
   cases r with
   |cons h1 t=>cases t with
    |cons h2 t=>
     cases t
     obtain⟨a,us,rfl,hq,rr⟩:=h1.lst s.le
     obtain⟨g1,f1⟩:=Zsx h2 hf.1
     obtain⟨g2,f2⟩:=Zm2 rr hf.2
     refine⟨_,_,rfl,a,us,_,rfl,rfl,hq,f1,f2,?_⟩
     rw[g1,g2,List.countP_map]
     exact k.fz s (.int _)
  ·cases e
 ·cases e
@[simp] noncomputable def Zj4:List D→Option SV
 | [.str a,.str b,.int i]=>some (.fz (.int (Txt.find3 a b i)))
 |_=>none
theorem Ztc:Zmr Z Zq2 Zj4:=by
 intro F H σ δ own vs ds sv Q s r e k
 unfold Zj4 at e
 split at e
 ·cases e
  cases r with
  |cons h1 t=>cases t with
   |cons h2 t=>cases t with
    |cons h3 t=>
     cases t
     refine⟨_,_,rfl,_,_,_,h1.str,by rw[h2.str,h3.int],k.fz s (.int _)⟩
 ·cases e
@[simp] noncomputable def augF(i:Nat)(j:Int):FS:=fun δ=>match δ[i]? with
 |some (some (.fz (.int x)))=>some (.nx (δ.set i (some (.fz (.int (x+j))))))
 |_=>none
theorem Z09{i:Nat}{j:Int}(h:Zv Z (augF i j) E σ H):tAug i (tC (.int j)) (ipI fun i j=>i+j) E σ H:=by
 obtain⟨F,δ,own,fl,s,e,k⟩:=h
 unfold augF at e
 split at e
 ·rename_i x hx
  cases e
  obtain⟨v,hv,sh⟩:=s.at' i _ hx
  have r:=Zb1 sh
  cases r
  have hi:i<σ.length:=(List.getElem?_eq_some_iff.mp hv).1
  exact⟨_,hv,_,_,rfl,rfl,k _ H F _ (Same.refl F) (s.store (TmpOk.fz (.int _)) hi)⟩
 ·cases e
theorem Zd7{F:Hp}{δ:DSt}{own:Nat→Zp}{i:Nat}{pin:Option Addr}{xss:List (List D)}(s:SR Z F H σ δ own)(h:δ[i]? =some (some (.oL pin xss))):
  ∃a ws ns,σ[i]? =some (some (.ref a))∧own i=(a,HO.lst ws)::ns∧Kids K F xss ws ns∧(∀b,pin=some b→b=a)∧H a=some (.lst ws)∧a∉adr ns∧(adr ns).Nodup:=by
 obtain⟨v,hv,sh⟩:=s.at' i _ h
 obtain⟨a,ws,ns,rfl,en,kd,hp⟩:=Zpv sh
 have nd:=s.nod i
 rw[en]at nd
 obtain⟨q1,q2⟩:=List.nodup_cons.mp nd
 exact⟨a,ws,ns,hv,en,kd,hp,(s.ok i (a,.lst ws) (by rw[en];exact List.mem_cons_self)).2.2,q1,q2⟩
theorem Ztd{F:Hp}{δ:DSt}{own:Nat→Zp}{sv:SV}{o:HO}{p:Addr}(s:SR Z F H σ δ own)(sh:Shape K F sv (.ref p) [(p,o)])(hp:H p=none):TmpOk Z F (upd H p o) own sv (.ref p) [(p,o)]:=by
 refine⟨sh,nd1,fun q hq=>?_,fun i q r hq hr e=>?_⟩
 ·obtain rfl:=List.mem_singleton.mp hq
  exact⟨s.le.free hp,s.old.free hp,Zab⟩
 ·obtain rfl:=List.mem_singleton.mp hq
  have e':p=r.1:=e
  have z:=(s.ok i r hr).2.2
  rw[←e',hp]at z;cases z
@[simp] noncomputable def Zte:FE:=fun δ=>some (.tmp (.oL none [[]]),δ)
theorem Zww(h:Zc Z Zte σ H Q):tLst (Zee (tLst tNil) tNil) σ H Q:=by
 obtain⟨F,δ,own,rv,δ',s,e,k⟩:=h
 cases e
 refine⟨Nat.zero_le _,fun b hb=>⟨by show 1≤_;decide,fun a ha=>?_⟩⟩
 have S1:=Zbo (o:=.lst []) hb
 have S2:=Zbo (o:=.lst [.ref b]) ha
 have hab:a≠b:=fun z=>by rw[z,Zab]at ha;cases ha
 have ha0:H a=none:=S1.free ha
 refine k (.ref a) _ F own (S1.trans S2) (Same.refl F) (s.grow (S1.trans S2)) ⟨[(a,.lst [.ref b]),(b,.lst [])],.oL Z05 (.cons .nil .nil),?_,fun p hp=>?_,fun i p q hp hq e=>?_⟩
 ·exact List.nodup_cons.mpr ⟨fun z=>hab (List.mem_singleton.mp z),nd1⟩
 ·rcases List.mem_cons.mp hp with z|z
  ·subst z;exact⟨s.le.free ha0,s.old.free ha0,Zab⟩
  ·have z:=List.mem_singleton.mp z
   subst z;exact⟨s.le.free hb,s.old.free hb,S2 _ _ Zab⟩
 ·have hq':=(s.ok i q hq).2.2
  rw[←e]at hq'
  rcases List.mem_cons.mp hp with z|z
  ·subst z;rw[ha0]at hq';cases hq'
  ·have z:=List.mem_singleton.mp z
   subst z;rw[hb]at hq';cases hq'
noncomputable def Zi8(i:Nat):FS:=fun δ=>match δ[i]? with
 |some (some (.oL p xss))=>if xss.length<PySem.sizeLine then some (.nx (δ.set i (some (.oL p (xss++[[]])))))else none
 |_=>none
@[simp] theorem Zpy{i:Nat}{δ:DSt}{p:Option Addr}{xss:List (List D)}(hi:δ[i]? =some (some (.oL p xss)))(hz:xss.length<PySem.sizeLine):Zi8 i δ=some (.nx (δ.set i (some (.oL p (xss++[[]]))))):=by
 unfold Zi8;rw[hi];exact if_pos hz
theorem Zwx{i:Nat}(h:Zv Z (Zi8 i) E σ H):Zg7 (tBM K "list" Zcz (tVar i) (Zee (tLst tNil) tNil)) E σ H:=by
 obtain⟨F,δ,own,fl,s,e,k⟩:=h
 unfold Zi8 at e
 split at e
 ·rename_i p xss hi
  split at e
  ·rename_i hz
   cases e
   obtain⟨a,ws,ns,hv,en,kd,hp,hH,q1,q2⟩:=Zd7 s hi
   have mb:(a,HO.lst ws)∈own i:=by rw[en];exact List.mem_cons_self
   refine⟨_,hv,.inl ⟨rfl,ws,.inl (.inl hH)⟩,Nat.zero_le _,fun b hb=>?_⟩
   have S1:=Zbo (o:=.lst []) hb
   have s1:=s.grow S1
   have t:=Ztd (sv:=.ol []) s (.ol .nil) hb
   refine⟨a,ws,.ref b,rfl,rfl,S1 _ _ hH,by rw[←kd.length];exact hz,?_⟩
   have hb':∀p∈own i,p.1≠b:=fun p hp z=>t.sep i (b,.lst []) p List.mem_cons_self hp z.symm
   refine k σ _ F _ (Same.refl F) (s1.changeT (sv':=.oL p (xss++[[]])) (o':=.lst (ws++[.ref b])) (ns':=(a,.lst (ws++[.ref b]))::(ns++[(b,.lst [])])) t hi hv mb (.oL hp (kd.snoc .nil)) (fun p hp=>?_) ?_)
   ·rcases List.mem_cons.mp hp with z|z
    ·exact .inl z
    ·rcases List.mem_append.mp z with z|z
     ·exact .inr (.inl ⟨by rw[en];exact List.mem_cons_of_mem _ z,fun w=>q1 (List.mem_map.mpr ⟨p,z,w⟩)⟩)
     ·exact .inr (.inr z)
   ·show(a::(ns++[(b,HO.lst [])]).map (·.1)).Nodup
    rw[List.map_append]
    refine List.nodup_cons.mpr ⟨fun z=>?_,?_⟩
    ·rcases List.mem_append.mp z with z|z
     ·exact q1 z
     ·exact hb' _ mb (List.mem_singleton.mp z)
    ·refine List.nodup_append.mpr ⟨q2,nd1,fun x hx y hy z=>?_⟩
     obtain⟨p,hp,ep⟩:=List.mem_map.mp hx
     have hy':y=b:=List.mem_singleton.mp hy
     exact hb' p (by rw[en];exact List.mem_cons_of_mem _ hp) (by rw[ep,z,hy'])
  ·cases e
 ·cases e
theorem Kids.getV{F:Hp}:∀{xss:List (List D)} {ws:List V} {ns:Zp} {p:Nat} {xs:List D},Kids K F xss ws ns→xss[p]? =some xs→∃b vs,ws[p]? =some (.ref b)∧ns[p]? =some (b,HO.lst vs)∧Reps K F xs vs
 |_,_,_,_,_,.nil,e=>by simp at e
 |_,_,_,0,_,.cons r _,e=>by simp at e;subst e;exact⟨_,_,rfl,rfl,r⟩
 |_,_,_,p+1,_,.cons _ t,e=>by
  obtain⟨b,vs,h1,h2,h3⟩:=t.getV (p:=p) (by simpa using e)
  exact⟨b,vs,by simpa using h1,by simpa using h2,h3⟩
theorem Kids.lenN{F:Hp}:∀{xss:List (List D)} {ws:List V} {ns:Zp},Kids K F xss ws ns→xss.length=ns.length
 |_,_,_,.nil=>rfl
 |_,_,_,.cons _ t=>by rw[List.length_cons,List.length_cons,t.lenN]
theorem Zpz{α:Type}{ws:List α}{x:α}(h:ws[ws.length- 1]? =some x):atI ws (-1)=some x:=by
 have hl:=(List.getElem?_eq_some_iff.mp h).1
 have e:ws=ws.dropLast++[x]:=by
  have hne:ws≠[]:=fun z=>by subst z;simp at hl
  have h2:ws.getLast hne=x:=by rw[List.getLast_eq_getElem];exact(List.getElem?_eq_some_iff.mp h).2
  rw[←h2];exact(List.dropLast_concat_getLast hne).symm
 rw[e];exact Zo0 _ _
noncomputable abbrev tTop(K:PySem.W.Frag)(i:Nat):TE:=tOp (rIxL K) (tVar i) (tC (.int (-1)))
theorem Zq3{F:Hp}{δ:DSt}{own:Nat→Zp}{i:Nat}{pin:Option Addr}{xss:List (List D)}{xs:List D}(s:SR Z F H σ δ own)(h:δ[i]? =some (some (.oL pin xss)))(hx:xss[xss.length- 1]? =some xs):
  ∃a ws ns b vs,σ[i]? =some (some (.ref a))∧own i=(a,HO.lst ws)::ns∧Kids K F xss ws ns∧H a=some (.lst ws)∧ws[ws.length- 1]? =some (.ref b)∧(b,HO.lst vs)∈own i∧H b=some (.lst vs)∧Reps K F xs vs∧∀R,R (.ref b) H→tTop K i σ H R:=by
 obtain⟨a,ws,ns,hv,en,kd,hp,hH,q1,q2⟩:=Zd7 s h
 obtain⟨b,vs,h1,h2,h3⟩:=kd.getV hx
 have mb:(b,HO.lst vs)∈own i:=by rw[en];exact List.mem_cons_of_mem _ (List.mem_of_getElem? h2)
 rw[kd.length]at h1
 exact⟨a,ws,ns,b,vs,hv,en,kd,hH,h1,mb,(s.ok i _ mb).2.2,h3,fun R r=>⟨_,hv,a,ws,-1,_,rfl,rfl,.inl (.inl hH),Zpz h1,r⟩⟩
noncomputable def Zcn(i:Nat)(fe:FE):FS:=fun δ=>match δ[i]? with
 |some (some (.oL _ xss0))=>if xss0.length=0 then none else(fe δ).bind fun q=>(frz q.1 q.2).bind fun r=>match r.2[i]? with
  |some (some (.oL p xss))=>(xss[xss.length- 1]?).bind fun xs=>if xs.length<PySem.sizeLine then some (.nx (r.2.set i (some (.oL p (xss.set (xss.length- 1) (xs++[r.1]))))))else none
  |_=>none
 |_=>none
theorem Zj5{α:Type}(yss:List α)(x z:α):(yss++[x]).set ((yss++[x]).length- 1) z=yss++[z]:=by
 rw[List.length_append,List.length_singleton,Nat.add_sub_cancel,List.set_append_right _ _ (Nat.le_refl _),Nat.sub_self,List.set_cons_zero]
theorem Zgr{α:Type}(yss:List α)(x:α):(yss++[x])[(yss++[x]).length- 1]? =some x:=by
 rw[List.length_append,List.length_singleton,Nat.add_sub_cancel,List.getElem?_append_right (Nat.le_refl _),Nat.sub_self];rfl
theorem Zi9{i:Nat}{fe:FE}{δ δ1 δ2:DSt}{p p2:Option Addr}{xss0 yss:List (List D)}{xs:List D}{rv:RV}{d:D}(hi:δ[i]? =some (some (.oL p xss0)))(hn:xss0.length≠0)(h1:fe δ=some (rv,δ1))(h2:frz rv δ1=some (d,δ2))(h3:δ2[i]? =some (some (.oL p2 (yss++[xs]))))(hz:xs.length<PySem.sizeLine):
  Zcn i fe δ=some (.nx (δ2.set i (some (.oL p2 (yss++[xs++[d]]))))):=by
 unfold Zcn
 rw[hi]
 dsimp only
 rw[if_neg hn,h1,Option.bind_some,h2,Option.bind_some]
 dsimp only
 rw[h3]
 dsimp only
 rw[Zgr,Option.bind_some,if_pos hz,Zj5]
theorem Zne{i:Nat}{fe:FE}(h:Zv Z (Zcn i fe) E σ H):Zg7 (tBM K "list" Zcz (tTop K i) (Zee (Zc Z fe) tNil)) E σ H:=by
 obtain⟨F,δ,own,fl,s,e,k⟩:=h
 unfold Zcn at e
 split at e
 ·rename_i p0 xss0 hi
  split at e
  ·cases e
  rename_i hn0
  obtain⟨⟨rv,δ1⟩,f3,e⟩:=Option.bind_eq_some_iff.mp e
  obtain⟨⟨d,δ2⟩,f4,e⟩:=Option.bind_eq_some_iff.mp e
  obtain⟨xs0,hx0⟩:∃xs0,xss0[xss0.length- 1]? =some xs0:=⟨xss0[xss0.length- 1]'(by omega),List.getElem?_eq_getElem (by omega)⟩
  obtain⟨a,ws,ns,b,vs0,hv,en,kd,hH,hw,m0,hb0,_,top⟩:=Zq3 s hi hx0
  refine top _ ?_
  refine⟨.inl ⟨rfl,vs0,.inl (.inl hb0)⟩,F,δ,own,rv,δ1,s,f3,fun w H1 F1 own1 sH1 sF1 s1 r1=>?_⟩
  obtain⟨F2,sF2,s2,r2⟩:=s1.settleR r1
  obtain⟨F3,own3,sF3,s3,r3⟩:=s2.frzR r2 f4
  dsimp only at e
  split at e
  ·rename_i p xss ho
   obtain⟨xs,f5,e⟩:=Option.bind_eq_some_iff.mp e
   split at e
   ·rename_i hz
    cases e
    obtain⟨a3,ws3,ns3,hv3,en3,kd3,hp3,hH3,r1',r2'⟩:=Zd7 s3 ho
    rw[hv]at hv3;cases hv3
    have:some (HO.lst ws3)=some (HO.lst ws):=hH3.symm.trans (sH1 _ _ hH)
    cases this
    have c1:ws[xss.length- 1]? =some (.ref b):=by rw[kd3.length];exact hw
    obtain⟨ys,vs,k1,k2,k3,k4⟩:=kd3.app c1 r2'
    rw[f5]at k1
    cases k1
    obtain⟨ns',j1,j2,j3⟩:=k4 r3
    have mb3:(a,HO.lst ws)∈own3 i:=by rw[en3];exact List.mem_cons_self
    have mbb:(b,HO.lst vs)∈own3 i:=by rw[en3];exact List.mem_cons_of_mem _ k2
    have hne:a≠b:=fun z=>r1' (List.mem_map.mpr ⟨_,k2,z.symm⟩)
    refine⟨b,vs,w,rfl,rfl,(s3.ok i _ mbb).2.2,by rw[←k3.length];exact hz,?_⟩
    refine k σ _ F3 _ (sF1.trans (sF2.trans sF3)) (s3.change (sv':=.oL p (xss.set (xss.length- 1) (xs++[d]))) (o':=.lst (vs++[w])) (ns':=(a,.lst ws)::ns') ho hv mbb (.oL hp3 j1) (fun q hq=>?_) ?_)
    ·rcases List.mem_cons.mp hq with z|z
     ·exact .inr ⟨by rw[z];exact mb3,by rw[z];exact hne⟩
     ·rcases j3 q z with z|⟨z,z2⟩
      ·exact .inl z
      ·exact .inr ⟨by rw[en3];exact List.mem_cons_of_mem _ z,z2⟩
    ·show(a::adr ns').Nodup
     rw[j2]
     exact List.nodup_cons.mpr ⟨r1',r2'⟩
   ·cases e
  ·cases e
 ·cases e
end
end DL
namespace DL
open PySem PySem.Spec PyProof.Rows L2
variable{K:PySem.W.Frag}
section
variable{Z:Ent K}{H:Hp}{σ:L2.St}{Q:VK}{E:Ends}
noncomputable def Zia(i:Nat):FE:=fun δ=>match δ[i]? with
 |some (some (.oL _ xss))=>some (.tmp (.fz (.int (xss.length:Nat))),δ)
 |_=>none
@[simp] theorem Zb4{i:Nat}{δ:DSt}{p:Option Addr}{xss:List (List D)}(hi:δ[i]? =some (some (.oL p xss))):Zia i δ=some (.tmp (.fz (.int (xss.length:Nat))),δ):=by unfold Zia;rw[hi]
noncomputable abbrev Z1a(K:PySem.W.Frag):List V→Hp→VK→Prop:=fun xs H Q=>∃p ys,xs=[V.ref p]∧(SqL K H p ys∨SqT K H p ys)∧Q (.int ys.length) H
theorem Zwy{i:Nat}(h:Zc Z (Zia i) σ H Q):tCB (Z1a K) (Zee (tVar i) tNil) σ H Q:=by
 obtain⟨F,δ,own,rv,δ',s,e,k⟩:=h
 unfold Zia at e
 split at e
 ·rename_i p xss hi
  cases e
  obtain⟨a,ws,ns,hv,en,kd,hp,hH,q1,q2⟩:=Zd7 s hi
  refine⟨_,hv,a,ws,rfl,.inl (.inl (.inl hH)),?_⟩
  rw[←kd.length]
  exact k _ H F own (Same.refl H) (Same.refl F) s ⟨[],.fz (.int _)⟩
 ·cases e
noncomputable def Z1b(i:Nat):FE:=fun δ=>match δ[i]? with
 |some (some (.oL _ xss))=>(xss[xss.length- 1]?).bind fun xs=>some (.tmp (.fz (.int (xs.length:Nat))),δ)
 |_=>none
noncomputable def Z1c(i:Nat):FE:=fun δ=>match δ[i]? with
 |some (some (.oL _ xss))=>(xss[xss.length- 1]?).bind fun xs=>(xs[xs.length- 1]?).bind fun d=>some (.tmp (.fz d),δ)
 |_=>none
noncomputable def Zdn(i:Nat):FE:=fun δ=>match δ[i]? with
 |some (some (.oL _ (xs::_)))=>some (.tmp (.fz (.tup xs)),δ)
 |_=>none
@[simp] theorem Zfp{i:Nat}{δ:DSt}{p:Option Addr}{xss:List (List D)}{xs:List D}(hi:δ[i]? =some (some (.oL p (xs::xss)))):Zdn i δ=some (.tmp (.fz (.tup xs)),δ):=by unfold Zdn;rw[hi]
noncomputable abbrev Z1d(K:PySem.W.Frag):List V→Hp→VK→Prop:=fun xs H Q=>∃p ys,xs=[V.ref p]∧((SqL K H p ys∧∀l,H l=none→Q (.ref l) (upd H l (.tup ys)))∨(SqT K H p ys∧Q (.ref p) H))
theorem Znf{i:Nat}(h:Zc Z (Zdn i) σ H Q):tCB (Z1d K) (Zee (tOp (rIxL K) (tVar i) (tC (.int 0))) tNil) σ H Q:=by
 obtain⟨F,δ,own,rv,δ',s,e,k⟩:=h
 unfold Zdn at e
 split at e
 ·rename_i p xs xss hi
  cases e
  obtain⟨a,ws,ns,hv,en,kd,hp,hH,q1,q2⟩:=Zd7 s hi
  obtain⟨b,vs,h1,h2,h3⟩:=kd.getV (p:=0) rfl
  have mb:(b,HO.lst vs)∈own i:=by rw[en];exact List.mem_cons_of_mem _ (List.mem_of_getElem? h2)
  refine⟨_,hv,a,ws,0,.ref b,rfl,rfl,.inl (.inl hH),Zr4 (j:=0) h1,b,vs,rfl,.inl ⟨.inl (.inl (s.ok i _ mb).2.2),fun l hl=>?_⟩⟩
  exact Fin.tup (fun v H2 F2 ns a b c t=>k v H2 F2 own a b c ⟨ns,t⟩) s h3 hl
 ·cases e
noncomputable def Zib(j i:Nat):FS:=fun δ=>match δ[i]? with
 |some (some (.oL p xss))=>(xss[xss.length- 1]?).bind fun xs=>if i≠j∧j<δ.length then some (.nx ((δ.set i (some (.oL p xss.dropLast))).set j (some (.ol xs))))else none
 |_=>none
theorem Zj6{i j:Nat}{δ:DSt}{p:Option Addr}{yss:List (List D)}{xs:List D}(hi:δ[i]? =some (some (.oL p (yss++[xs]))))(hij:i≠j)(hj:j<δ.length):Zib j i δ=some (.nx ((δ.set i (some (.oL p yss))).set j (some (.ol xs)))):=by
 unfold Zib;rw[hi];dsimp only;rw[Zgr,Option.bind_some,if_pos ⟨hij,hj⟩,List.dropLast_concat]
theorem Kids.dropLast{F:Hp}{xss:List (List D)}{ws:List V}{ns:Zp}(h:Kids K F xss ws ns):Kids K F xss.dropLast ws.dropLast ns.dropLast:=by
 rw[List.dropLast_eq_take,List.dropLast_eq_take,List.dropLast_eq_take,←h.length,←h.lenN]
 exact h.take _
theorem Zwz{i j:Nat}(h:Zv Z (Zib j i) E σ H):tAsg (tBM0 K "list" rPop (tVar i)) (Zkv j) E σ H:=by
 obtain⟨F,δ,own,fl,s,e,k⟩:=h
 unfold Zib at e
 split at e
 ·rename_i p xss hi
  obtain⟨xs,e1,e2⟩:=Option.bind_eq_some_iff.mp e
  split at e2
  ·rename_i hc
   cases e2
   obtain⟨a,ws,ns,hv,en,kd,hp,hH,q1,q2⟩:=Zd7 s hi
   obtain⟨b,vs,h1,h2,h3⟩:=kd.getV e1
   have hl:=(List.getElem?_eq_some_iff.mp h2).1
   have hns:ns=ns.dropLast++[(b,HO.lst vs)]:=by
    have hne:ns≠[]:=fun z=>by subst z;simp at hl
    have h9:ns.getLast hne=(b,HO.lst vs):=by
     rw[kd.lenN]at h2
     rw[List.getLast_eq_getElem];exact(List.getElem?_eq_some_iff.mp h2).2
    rw[←h9];exact(List.dropLast_concat_getLast hne).symm
   have mn:(b,HO.lst vs)∈ns:=by rw[hns];exact List.mem_append_right _ List.mem_cons_self
   have mb:(b,HO.lst vs)∈own i:=by rw[en];exact List.mem_cons_of_mem _ mn
   have ma:(a,HO.lst ws)∈own i:=by rw[en];exact List.mem_cons_self
   have hba:b≠a:=fun z=>q1 (List.mem_map.mpr ⟨_,mn,z⟩)
   have nd2:=q2
   rw[hns]at nd2
   have nd2':(adr ns.dropLast++[b]).Nodup:=by unfold adr at nd2;rw[List.map_append]at nd2;exact nd2
   obtain⟨n1,n2,n3⟩:=List.nodup_append.mp nd2'
   refine⟨_,hv,.inl ⟨rfl,ws,.inl (.inl hH)⟩,a,ws,.ref b,rfl,rfl,hH,by rw[←kd.length];exact h1,?_⟩
   have sub:∀p∈ns.dropLast,p∈own i:=fun p hp=>by rw[en,hns];exact List.mem_cons_of_mem _ (List.mem_append_left _ hp)
   have s1:=s.change (sv':=.oL p xss.dropLast) (o':=.lst ws.dropLast) (ns':=(a,.lst ws.dropLast)::ns.dropLast) hi hv ma (.oL hp kd.dropLast) (fun q hq=>by
    rcases List.mem_cons.mp hq with z|z
    ·exact .inl z
    ·exact .inr ⟨sub q z,fun w=>q1 (List.mem_map.mpr ⟨q,by rw[hns];exact List.mem_append_left _ z,w⟩)⟩) (by
    show(a::adr ns.dropLast).Nodup
    exact List.nodup_cons.mpr ⟨fun z=>q1 (by
     obtain⟨q,hq,eq⟩:=List.mem_map.mp z
     exact List.mem_map.mpr ⟨q,by rw[hns];exact List.mem_append_left _ hq,eq⟩),n1⟩)
   have ok:=s.ok i _ mb
   have t:TmpOk Z F (upd H a (.lst ws.dropLast)) (put own i ((a,.lst ws.dropLast)::ns.dropLast)) (.ol xs) (.ref b) [(b,.lst vs)]:=by
    refine⟨.ol h3,nd1,fun q hq=>?_,fun l q r hq hr z=>?_⟩
    ·obtain rfl:=List.mem_singleton.mp hq
     exact⟨ok.1,ok.2.1,by rw[Zy hba];exact ok.2.2⟩
    ·obtain rfl:=List.mem_singleton.mp hq
     by_cases hl:l=i
     ·subst hl
      rw[Zo]at hr
      rcases List.mem_cons.mp hr with y|y
      ·subst y;exact hba z
      ·exact n3 r.1 (List.mem_map.mpr ⟨r,y,rfl⟩) b List.mem_cons_self z.symm
     ·rw[Zu hl]at hr
      exact s.sep i l _ r (Ne.symm hl) mb hr z
   exact k _ _ F _ (Same.refl F) (s1.store t (by rw[s.len];exact hc.2))
  ·cases e2
 ·cases e
noncomputable def hole(H:Hp)(ns:Zp):Hp:=fun b=>if b∈adr ns then none else H b
theorem Ztf{ns:Zp}:Same (hole H ns) H:=fun b o e=>by
 unfold hole at e
 split at e
 ·cases e
 ·exact e
theorem Ztg{ns:Zp}{b:Addr}(h:b∈adr ns):hole H ns b=none:=if_pos h
theorem Zfa{ns:Zp}{b:Addr}(h:b∉adr ns):hole H ns b=H b:=if_neg h
theorem Zng{ns:Zp}{b:Addr}(h:hole H ns b=none):b∈adr ns∨H b=none:=by
 by_cases hb:b∈adr ns
 ·exact .inl hb
 ·rw[Zfa hb]at h;exact .inr h
noncomputable def spM(K:PySem.W.Frag)(g:Addr→List (List D)→Option (List (List D))):Sp:=fun vs H Q _=>∃F a xss ws ns yss,vs=[V.ref a]∧Same F H∧Kids K F xss ws ns∧(adr ((a,HO.lst ws)::ns)).Nodup∧(∀p∈(a,HO.lst ws)::ns,F p.1=none∧H p.1=some p.2)∧g a xss=some yss∧
 ∀H' F' ws' ns',Same (hole H ((a,.lst ws)::ns)) H'→Same F F'→Same F' H'→(∀(b:Addr) (o:HO),F' b=some o→F b=some o∨hole H ((a,.lst ws)::ns) b=none)→Kids K F' yss ws' ns'→(adr ((a,HO.lst ws')::ns')).Nodup→
  (∀p∈(a,HO.lst ws')::ns',F' p.1=none∧hole H ((a,.lst ws)::ns) p.1=none∧H' p.1=some p.2)→Q .non H'
@[simp] noncomputable def Znh(n:Nat)(a:Addr)(xss:List (List D)):DSt:=some (.oL (some a) xss)::List.replicate (n- 1) none
@[simp] noncomputable def Zth(a:Addr)(o:Option (Option SV)):Option (List (List D)):=match o with
 |some (some (.oL (some b) yss))=>if b=a then some yss else none
 |_=>none
@[simp] noncomputable def outM(f:FS)(n:Nat)(a:Addr)(xss:List (List D)):Option (List (List D)):=match f (Znh n a xss)with
 |some (.nx δ)=>Zth a δ[0]?
 |_=>none
open Classical in
noncomputable def mutF(i:Nat)(g:Addr→List (List D)→Option (List (List D))):FS:=fun δ=>match δ[i]? with
 |some (some (.oL p xss))=>if h:∃o,∀a,g a xss=some o then some (.nx (δ.set i (some (.oL p h.choose))))else none
 |_=>none
end
end DL
namespace DL
open PySem PySem.Spec PyProof.Rows L2
section
variable{X:Cx}{Z:Ent X.K}{a b c:Expr}{fa fb fc:FE}{pos:Pos}
theorem Zw0{jj:Nat}{p1 p2:Pos}:PE X (.UnaryOp .USub (.Constant (.int 1) jj p1) p2) (tC (.int (-1))):=(Zu0 Zqf Zjh).imp fun _ _ _ h=>⟨1,rfl,h⟩
theorem Zw1{i:Nat}{jj:Nat}{p1 p2 p3:Pos}(ha:PE X a (tVar i)):PE X (.Subscript a (.UnaryOp .USub (.Constant (.int 1) jj p1) p2) p3) (tTop X.K i):=Zr5 Zit ha Zw0 (by intro _ _;rfl)
theorem Zw2{p1:Pos}(he:starEach [.List [] p1] X.env=(false,eval (.List [] p1) X.env)::starEach [] X.env:=by rfl):PE X (.List [.List [] p1] pos) (Zc Z Zte):=(Zjj (Zac (Zjj Zbb) Zbb he)).imp fun _ _ _ h=>Zww h
theorem Zni(i:Nat){p:Pos}(hm:X.mg "len"=none)(ha:PE X a (tVar i))(hg:Gl X "len":=by rfl)(he:starEach [a] X.env=(false,eval a X.env)::starEach [] X.env:=by rfl)(hpl:(backTo pos (starEach [] X.env)).any (·.1)=false:=by rfl):PE X (.Call (.Name "len" p) [a] [] pos) (Zc Z (Zia i)):=
 (Zdk Zet hg hm PySem.boot_len (Zac ha Zbb he) (by decide) (by decide) he hpl).imp fun _ _ _ h=>Zwy h
theorem Znj(i:Nat){jj:Nat}{p p1 p2:Pos}(hm:X.mg "tuple"=none)(ha:PE X a (tVar i))(hg:Gl X "tuple":=by rfl)(he:starEach [.Subscript a (.Constant (.int 0) jj p1) p2] X.env=(false,eval (.Subscript a (.Constant (.int 0) jj p1) p2) X.env)::starEach [] X.env:=by rfl)(hpl:(backTo pos (starEach [] X.env)).any (·.1)=false:=by rfl):
  PE X (.Call (.Name "tuple" p) [.Subscript a (.Constant (.int 0) jj p1) p2] [] pos) (Zc Z (Zdn i)):=
 (Zhg Zd3 hg hm boot_tuple (Zac (Zr5 Zit ha Zjh (by intro _ _;rfl)) Zbb he) (by decide) (by decide) he hpl).imp fun _ _ _ h=>Znf h
theorem Zw3(i:Nat){x:Str}{px apos cpos lp:Pos}(hN:X.N[i]? =some x:=by rfl)(hv:Vis X.env.scope x:=by first|exact Or.inl rfl|exact Or.inr (Or.inl rfl)|exact Or.inr (Or.inr rfl))(hd:(x==("__debug__":Str))=false:=by decide)
  (hcd:(x==("__classdict__":Str))=false:=by decide) (hbase:attributeBase (.Name x px) "append" X.env (eval (.Name x px) X.env)=eval (.Name x px) X.env:=by rfl)
  (hfew:((backTo cpos (starEach [.List [] lp] X.env)).all (fun x=>!x.1)&&(backToKw cpos (keywordEach [] X.env)).all (fun x=>x.1.isSome)&&decide ([Expr.List [] lp].length+([]:List Keyword).length+(if([]:List Keyword).isEmpty then 0 else 1)<30))=true:=by rfl)
  (hline:(apos.endLine==cpos.line)=true:=by rfl) (hs:starEach [.List [] lp] X.env=(false,eval (.List [] lp) X.env)::starEach [] X.env:=by rfl) (hpl:(backTo cpos (starEach [] X.env)).any (·.1)=false:=by rfl) (hsw:swapsWith (.Call (.Attribute (.Name x px) "append" apos) [.List [] lp] [] cpos) none pos.line X.env=pure false:=by rfl):
  PS X (.Expr (.Call (.Attribute (.Name x px) "append" apos) [.List [] lp] [] cpos) pos) (Zv Z (Zi8 i)):=
 (Zed (Zhk PySem.F.plainAttrs_list PySem.F.slot_list_append PySem.F.type_list_append Zc0 (Zg6 (i:=i) hN hv hd hcd) (Zac (Zjj Zbb) Zbb hs) hbase hfew hline hs hpl) hsw).imp fun _ _ _ h=>Zwx h
theorem Znk(i:Nat){apos cpos:Pos}(ha:PE X a (tTop X.K i))(hb:PE X b (Zc Z fb))(hbase:attributeBase a "append" X.env (eval a X.env)=eval a X.env:=by rfl)
  (hfew:((backTo cpos (starEach [b] X.env)).all (fun x=>!x.1)&&(backToKw cpos (keywordEach [] X.env)).all (fun x=>x.1.isSome)&&decide ([b].length+([]:List Keyword).length+(if([]:List Keyword).isEmpty then 0 else 1)<30))=true:=by rfl)
  (hline:(apos.endLine==cpos.line)=true:=by rfl) (hs:starEach [b] X.env=(false,eval b X.env)::starEach [] X.env:=by rfl) (hpl:(backTo cpos (starEach [] X.env)).any (·.1)=false:=by rfl) (hsw:swapsWith (.Call (.Attribute a "append" apos) [b] [] cpos) none pos.line X.env=pure false:=by rfl):
  PS X (.Expr (.Call (.Attribute a "append" apos) [b] [] cpos) pos) (Zv Z (Zcn i fb)):=
 (Zed (Zhk PySem.F.plainAttrs_list PySem.F.slot_list_append PySem.F.type_list_append Zc0 ha (Zac hb Zbb hs) hbase hfew hline hs hpl) hsw).imp fun _ _ _ h=>Zne h
theorem Zw4(j i:Nat){x y:Str}{px py apos cpos:Pos}(hN:X.N.Nodup)(hi:X.N[i]? =some x:=by rfl)(hv:Vis X.env.scope x:=by first|exact Or.inl rfl|exact Or.inr (Or.inl rfl)|exact Or.inr (Or.inr rfl))(hd:(x==("__debug__":Str))=false:=by decide)(hcd:(x==("__classdict__":Str))=false:=by decide)
  (hbase:attributeBase (.Name x px) "pop" X.env (eval (.Name x px) X.env)=eval (.Name x px) X.env:=by rfl) (hline:(apos.endLine==cpos.line)=true:=by rfl)
  (hj:X.N[j]? =some y:=by rfl) (hy:Loc X.env.scope y:=by first|exact Or.inl rfl|exact Or.inr rfl) (hs:swapsWith (.Call (.Attribute (.Name x px) "pop" apos) [] [] cpos) (some (.Name y py)) pos.line X.env=pure false:=by rfl) (hf:X.fn y=true∨X.env.scope.names.lookup y=some .local:=by first|exact .inl rfl|exact .inr rfl):
  PS X (.Assign [.Name y py] (.Call (.Attribute (.Name x px) "pop" apos) [] [] cpos) pos) (Zv Z (Zib j i)):=
 (Zlu hN hj hy (Zve PySem.F.plainAttrs_list PySem.F.slot_list_pop PySem.F.type_list_pop Zvf (Zg6 (i:=i) hi hv hd hcd) hbase hline) hs hf).imp fun _ _ _ h=>Zwz h
theorem Z1e(i:Nat){x:Str}{j:Int}{jj:Nat}{p1 p2:Pos}(hN:X.N.Nodup)(hi:X.N[i]? =some x:=by rfl)(hx:Loc X.env.scope x:=by first|exact Or.inl rfl|exact Or.inr rfl)(hf:X.fn x=true∨X.env.scope.names.lookup x=some .local:=by first|exact .inl rfl|exact .inr rfl):
  PS X (.AugAssign (.Name x p1) .Add (.Constant (.int j) jj p2) pos) (Zv Z (augF i j)):=(Zuw hN hi hx Zjh Zux hf).imp fun _ _ _ h=>Z09 h
theorem Zti{apos cpos:Pos}(ha:PE X a (Zc Z fa))(hb:PE X b (Zc Z fb))(hbase:attributeBase a "count" X.env (eval a X.env)=eval a X.env:=by rfl)
  (hfew:((backTo cpos (starEach [b] X.env)).all (fun x=>!x.1)&&(backToKw cpos (keywordEach [] X.env)).all (fun x=>x.1.isSome)&&decide ([b].length+([]:List Keyword).length+(if([]:List Keyword).isEmpty then 0 else 1)<30))=true:=by rfl)
  (hline:(apos.endLine==cpos.line)=true:=by rfl) (hs:starEach [b] X.env=(false,eval b X.env)::starEach [] X.env:=by rfl) (hpl:(backTo cpos (starEach [] X.env)).any (·.1)=false:=by rfl):
  PE X (.Call (.Attribute a "count" apos) [b] [] cpos) (Zc Z (bmF "list" Za8 fa (Zb fb Zj))):=
 (Zhk PySem.F.plainAttrs_list PySem.F.slot_list_count PySem.F.type_list_count Zpw ha (Zx hb Zbh hs) hbase hfew hline hs hpl).imp fun _ _ _ h=>l_bm Ztb h
theorem Ztj{apos cpos:Pos}(ha:PE X a (Zc Z fa))(hb:PE X b (Zc Z fb))(hc:PE X c (Zc Z fc))(hbase:attributeBase a "find" X.env (eval a X.env)=eval a X.env:=by rfl)
  (hfew:((backTo cpos (starEach [b,c] X.env)).all (fun x=>!x.1)&&(backToKw cpos (keywordEach [] X.env)).all (fun x=>x.1.isSome)&&decide ([b,c].length+([]:List Keyword).length+(if([]:List Keyword).isEmpty then 0 else 1)<30))=true:=by rfl)
  (hline:(apos.endLine==cpos.line)=true:=by rfl) (hs:starEach [b,c] X.env=(false,eval b X.env)::starEach [c] X.env:=by rfl) (hs2:starEach [c] X.env=(false,eval c X.env)::starEach [] X.env:=by rfl) (hpl:(backTo cpos (starEach [c] X.env)).any (·.1)=false:=by rfl):
  PE X (.Call (.Attribute a "find" apos) [b,c] [] cpos) (Zc Z (bmF "str" Zj4 fa (Zb fb (Zb fc Zj)))):=
 (Zhk PySem.F.plainAttrs_str PySem.F.slot_str_find PySem.F.type_str_find Zpx ha (Zx hb (Zx hc Zbh hs2) hs) hbase hfew hline hs hpl).imp fun _ _ _ h=>l_bm Ztc h
end
end DL
namespace L2
open PySem PySem.Spec PyProof.Rows
section
variable{X:Cx}
noncomputable abbrev Zw5:List V→Hp→VK→Prop:=fun xs H Q=>∃(x:Str) (n:Int),xs=[V.str x]∧PySem.intText? x=some n∧x.length≤640∧Q (.int n) H
theorem Znl:Zcx X (.type "int") Zw5:=by
 intro pins s σ H xs us Q I r h
 obtain⟨x,n,rfl,hn,hl,q⟩:=h
 obtain⟨u,rfl,t,rfl⟩:=Zfw r
 exact PySem.W.KIN.call_text hn hl ⟨.int n,H,I.tok _,⟨_,rfl⟩,q⟩
end
end L2
namespace DL
open PySem PySem.Spec PyProof.Rows L2
variable{K:PySem.W.Frag}
noncomputable def Zgs:List D→Option SV
 | [.str x]=>if x.length≤640 then(PySem.intText? x).bind fun n=>some (.fz (.int n))else none
 |_=>none
theorem Zw6{Z:Ent K}:Zfe Z Zw5 Zgs:=by
 intro F H σ δ own vs ds sv Q s r e k
 unfold Zgs at e
 split at e
 ·split at e
  ·rename_i x hx
   obtain⟨n,e1,e2⟩:=Option.bind_eq_some_iff.mp e
   cases e2
   cases r with
   |cons h1 t=>
    cases t
    exact⟨x,n,by rw[h1.str],e1,hx,k.fz s (.int _)⟩
  ·cases e
 ·cases e
section
variable{X:Cx}{Z:Ent X.K}{a:Expr}{fa:FE}{pos:Pos}
theorem Zq4{p:Pos}(hm:X.mg "int"=none)(ha:PE X a (Zc Z fa))(hg:Gl X "int":=by rfl)(he:starEach [a] X.env=(false,eval a X.env)::starEach [] X.env:=by rfl)(hpl:(backTo pos (starEach [] X.env)).any (·.1)=false:=by rfl):PE X (.Call (.Name "int" p) [a] [] pos) (Zc Z (Zao Zgs (Zb fa Zj))):=
 Zi4 Znl Zw6 hm boot_int (Zx ha Zbh he) hg (by decide) (by decide) he hpl
end
end DL
namespace L2
open PySem PySem.Spec PyProof.Rows
section
variable{X:Cx}
noncomputable def Z4f(K:PySem.W.Frag):V→List V→Hp→VK→Prop:=fun x vs H Q=>∃l b xs zs,x= .ref l∧vs=[.ref b]∧H l=some (.lst xs)∧SqT K H b zs∧xs.length+zs.length≤sizeLine∧Q .non (upd H l (.lst (xs++zs)))
noncomputable def Z28:List V→Hp→VK→Prop:=fun xs H Q=>∃p kvs,xs=[.ref p]∧RdK H p kvs∧∀l,H l=none→Q (.ref l) (upd H l (.lst (kvs.map fun kv=>kV kv.1)))
end
end L2
namespace DL
open PySem PySem.Spec PyProof.Rows L2
variable{K:PySem.W.Frag}
noncomputable def Z1f:List D→Option SV
 | [.dK ks _]=>some (.ol (ks.map keyD))
 |_=>none
@[simp] theorem Zy2(ks:List Key)(vs:List D):Z1f [.dK ks vs]=some (.ol (ks.map keyD)):=rfl
section
variable{Z:Ent K}{H:Hp}{σ:L2.St}{Q:VK}{E:Ends}
@[simp] noncomputable def SV.tup?:RV→Option (List D)
 | .tmp (.fz (.tup ys))=>some ys
 |_=>none
@[simp] noncomputable def Z4g(i:Nat)(fe:FE):FS:=fun δ=>match δ[i]? with
 |some (some (.ol _))=>(fe δ).bind fun p=>(SV.tup? p.1).bind fun ys=>match p.2[i]? with
  |some (some (.ol xs))=>if xs.length+ys.length≤PySem.sizeLine then some (.nx (p.2.set i (some (.ol (xs++ys)))))else none
  |_=>none
 |_=>none
end
section
variable{X:Cx}{Z:Ent X.K}{a b c:Expr}{fa fb fc:FE}{pos:Pos}
end
end DL
namespace DL
open PySem PySem.Spec PyProof.Rows L2
section
variable{K:PySem.W.Frag}{Z:Ent K}{H:Hp}{σ:L2.St}{Q:VK}
@[simp] noncomputable def bmX(T:String)(g:List D→Option SV)(fo:FE)(fa:FAX):FX:=fun δ=>(fo δ).bind fun p=>(rdv p.1 p.2).bind fun d0=>if tyOk T d0=true then(fa p.2).bind fun
 | .x e δ2=>some (.x e δ2)
 | .v rvs δ2=>(Zdr (p.1::rvs) δ2).bind fun ds=>(g ds).bind fun sv=>some (.v (.tmp sv) δ2)else none
end
section
variable{X:Cx}{Z:Ent X.K}{a b:Expr}{fa:FE}{fx:FX}
end
end DL
namespace DL
open PySem PySem.Spec PyProof.Rows L2
section
variable{K:PySem.W.Frag}{Z:Ent K}{H:Hp}{σ:L2.St}{Q:VK}{E:Ends}
inductive MR where
 |v (yss:List (List D))|x (e:Exn)
noncomputable def spMX(K:PySem.W.Frag)(g:Addr→List (List D)→Option MR):Sp:=fun vs H Q E=>∃F a xss ws ns r,vs=[V.ref a]∧Same F H∧Kids K F xss ws ns∧(adr ((a,HO.lst ws)::ns)).Nodup∧(∀p∈(a,HO.lst ws)::ns,F p.1=none∧H p.1=some p.2)∧g a xss=some r∧match r with
 | .v yss=>∀H' F' ws' ns',Same (hole H ((a,.lst ws)::ns)) H'→Same F F'→Same F' H'→(∀(b:Addr) (o:HO),F' b=some o→F b=some o∨hole H ((a,.lst ws)::ns) b=none)→Kids K F' yss ws' ns'→(adr ((a,HO.lst ws')::ns')).Nodup→
   (∀p∈(a,HO.lst ws')::ns',F' p.1=none∧hole H ((a,.lst ws)::ns) p.1=none∧H' p.1=some p.2)→Q .non H'
 | .x e=>∀cls od H' F',Same (hole H ((a,.lst ws)::ns)) H'→Same F F'→Same F' H'→(∀(b:Addr) (o:HO),F' b=some o→F b=some o∨hole H ((a,.lst ws)::ns) b=none)→Zjt K F' e cls od→E cls od H'
theorem Zp0{g:Addr→List (List D)→Option MR}{vs:List V}{Q:VK}{E:XK}(h:spMX K g vs H Q E):vs.length=1:=by
 obtain⟨F,a,xss,ws,ns,r,rfl,_⟩:=h;rfl
@[simp] noncomputable def Znm(f:FS)(n:Nat)(a:Addr)(xss:List (List D)):Option MR:=match f (Znh n a xss)with
 |some (.nx δ)=>(Zth a δ[0]?).map .v
 |some (.ex e _)=>some (.x e)
 |_=>none
theorem Zlc{N:List Str}{f:FS}{vs:List V}{Q:VK}{E:XK}(hN:0<N.length)(h:spMX K (Znm f N.length) vs H Q E):∃G F,Zv (entX G F E:Ent K) f {nx:=fun _ H'=>Q .non H',rt:=Q} (L2.start N vs) H:=by
 obtain⟨F,a,xss,ws,ns,r,rfl,le,kd,nd,ok,e,k⟩:=h
 refine⟨hole H ((a,.lst ws)::ns),F,?_⟩
 have s0:SR (entX (hole H ((a,.lst ws)::ns)) F E:Ent K) F H (List.replicate N.length none) (List.replicate N.length none) fun _=>[]:=
  ⟨le,fun b o e=>.inl e,Ztf,by rw[List.length_replicate,List.length_replicate],fun i sv e=>(by rw[List.getElem?_replicate]at e;split at e<;> cases e),fun _=>List.nodup_nil,fun _ _ h=>(nomatch h),fun _ _ _ _ _ h=>(nomatch h)⟩
 have t:TmpOk (entX (hole H ((a,.lst ws)::ns)) F E:Ent K) F H (fun _=>[]) (.oL (some a) xss) (.ref a) ((a,.lst ws)::ns):=
  ⟨.oL (fun b e=>by cases e;rfl) kd,nd,fun p hp=>⟨(ok p hp).1,Ztg (List.mem_map.mpr ⟨p,hp,rfl⟩),(ok p hp).2⟩,fun _ _ _ _ h=>(nomatch h)⟩
 have s1:=s0.store (i:=0) t (by rw[List.length_replicate];exact hN)
 have st:∀(α:Type) (n:Nat) (x:α) (y:α),0<n→(List.replicate n y).set 0 x=x::List.replicate (n- 1) y:=fun α n x y hn=>by
  cases n with
  |zero=>omega
  |succ m=>rw[List.replicate_succ,List.set_cons_zero];rfl
 rw[st _ _ _ _ hN,st _ _ _ _ hN]at s1
 unfold Znm at e
 split at e
 ·rename_i δ hf
  obtain⟨yss,e,er⟩:=Option.map_eq_some_iff.mp e
  subst er
  unfold Zth at e
  split at e
  ·rename_i b zss h0
   split at e
   ·rename_i hba
    cases e
    subst hba
    refine⟨F,_,_,.nx δ,s1,hf,fun σ' H' F' own' a' s'=>?_⟩
    obtain⟨c,ws',ns',hv,en,kd',hp,hH,q1,q2⟩:=Zd7 s' h0
    obtain rfl:=hp b rfl
    refine k H' F' ws' ns' s'.old a' s'.le s'.fro kd' ?_ fun p hp=>?_
    ·have:=s'.nod 0;rw[en]at this;exact this
    ·exact s'.ok 0 p (by rw[en];exact hp)
   ·cases e
  ·cases e
 ·rename_i x δ hf
  cases e
  exact⟨F,_,_,.ex x δ,s1,hf,fun σ' H' F' own' cls od a' s' r'=>k cls od H' F' s'.old a' s'.le s'.fro r'⟩
 ·cases e
open Classical in
noncomputable def Zek(i:Nat)(g:Addr→List (List D)→Option MR):FS:=fun δ=>match δ[i]? with
 |some (some (.oL p xss))=>if h:∃o,∀a,g a xss=some o then(match h.choose with
  | .v yss=>some (.nx (δ.set i (some (.oL p yss))))
  | .x e=>some (.ex e (δ.set i none)))else none
 |_=>none
theorem Znn{i:Nat}{g:Addr→List (List D)→Option MR}{δ:DSt}{p:Option Addr}{xss yss:List (List D)}(hi:δ[i]? =some (some (.oL p xss)))(hg:∀a,g a xss=some (.v yss)):Zek i g δ=some (.nx (δ.set i (some (.oL p yss)))):=by
 unfold Zek
 rw[hi]
 have h:∃o,∀a,g a xss=some o:=⟨_,hg⟩
 dsimp only
 rw[dif_pos h]
 have:=h.choose_spec 0
 rw[hg 0]at this
 rw[←Option.some.inj this]
theorem Zno{i:Nat}{g:Addr→List (List D)→Option MR}{δ:DSt}{p:Option Addr}{xss:List (List D)}{e:Exn}(hi:δ[i]? =some (some (.oL p xss)))(hg:∀a,g a xss=some (.x e)):Zek i g δ=some (.ex e (δ.set i none)):=by
 unfold Zek
 rw[hi]
 have h:∃o,∀a,g a xss=some o:=⟨_,hg⟩
 dsimp only
 rw[dif_pos h]
 have:=h.choose_spec 0
 rw[hg 0]at this
 rw[←Option.some.inj this]
theorem Zw7{i:Nat}{g:Addr→List (List D)→Option MR}(h:Zv Z (Zek i g) E σ H):Zg7 (Zme (spMX K g) Z.x (Zee (tVar i) tNil)) E σ H:=by
 obtain⟨F,δ,own,fl,s,e,k⟩:=h
 unfold Zek at e
 split at e
 ·rename_i p xss hi
  split at e
  ·rename_i hg
   obtain⟨r,hr0,hr⟩:∃r,hg.choose=r∧∀a,g a xss=some r:=⟨_,rfl,hg.choose_spec⟩
   rw[hr0]at e
   clear hr0 hg
   obtain⟨a,ws,ns,hv,en,kd,hp,hH,q1,q2⟩:=Zd7 s hi
   have hil:i<δ.length:=(List.getElem?_eq_some_iff.mp hi).1
   have inO:∀b,b∈adr ((a,HO.lst ws)::ns)→∃q∈own i,b=q.1:=fun b hb=>by
    obtain⟨q,hq,e⟩:=List.mem_map.mp hb
    exact⟨q,by rw[en];exact hq,e.symm⟩
   have zh:∀b,hole H ((a,.lst ws)::ns) b=none→Z.h b=none:=fun b hb=>by
    rcases Zng hb with z|z
    ·obtain⟨q,hq,e⟩:=inO b z
     rw[e];exact(s.ok i q hq).2.1
    ·exact s.old.free z
   have keep:∀j,j≠i→∀q∈own j,hole H ((a,.lst ws)::ns) q.1=some q.2:=fun j hj q hq=>by
    rw[Zfa fun z=>?_]
    ·exact(s.ok j q hq).2.2
    ·obtain⟨r,hr,e⟩:=inO _ z
     exact s.sep j i q r hj hq hr e
   refine⟨_,hv,F,a,xss,ws,ns,r,rfl,s.le,kd,by rw[←en];exact s.nod i,fun q hq=>?_,hr a,?_⟩
   ·have:=s.ok i q (by rw[en];exact hq);exact⟨this.1,this.2.2⟩
   cases r with
   |x ex=>
    cases e
    intro cls od H' F' sH sF le' fro' rx
    refine k σ H' F' (put own i []) cls od sF ⟨le',fun b o e=>?_,fun b o e=>?_,by rw[List.length_set];exact s.len,fun j sv e=>?_,fun j=>?_,fun j q hq=>?_,fun j l q r hjl hq hr=>?_⟩ rx
    ·rcases fro' b o e with z|z
     ·exact s.fro b o z
     ·exact .inr (zh b z)
    ·refine sH b o ?_
     rw[Zfa fun z=>?_]
     ·exact s.old b o e
     ·obtain⟨q,hq,e'⟩:=inO b z
      rw[e',(s.ok i q hq).2.1]at e;cases e
    ·by_cases hj:j=i
     ·subst hj
      rw[List.getElem?_set_self hil]at e
      cases e
     ·rw[List.getElem?_set_ne (Ne.symm hj)]at e
      obtain⟨v,h1,h2⟩:=s.at' j sv e
      rw[Zu hj]
      exact⟨v,h1,h2.mono sF⟩
    ·by_cases hj:j=i
     ·subst hj;rw[Zo];exact List.nodup_nil
     ·rw[Zu hj];exact s.nod j
    ·by_cases hj:j=i
     ·subst hj
      rw[Zo]at hq
      exact nomatch hq
     ·rw[Zu hj]at hq
      obtain⟨x1,x2,x3⟩:=s.ok j q hq
      refine⟨?_,x2,sH _ _ (keep j hj q hq)⟩
      cases z:F' q.1 with
      |none=>rfl
      |some u=>
       rcases fro' _ u z with y|y
       ·rw[x1]at y;cases y
       ·rw[keep j hj q hq]at y;cases y
    ·by_cases hj:j=i
     ·subst hj
      rw[Zo]at hq
      exact nomatch hq
     ·by_cases hl:l=i
      ·subst hl
       rw[Zo]at hr
       exact nomatch hr
      ·rw[Zu hj]at hq
       rw[Zu hl]at hr
       exact s.sep j l q r hjl hq hr
   |v yss=>
    cases e
    intro H' F' ws' ns' sH sF le' fro' kd' nd' ok'
    refine k σ H' F' (put own i ((a,.lst ws')::ns')) sF ⟨le',fun b o e=>?_,fun b o e=>?_,by rw[List.length_set];exact s.len,fun j sv e=>?_,fun j=>?_,fun j q hq=>?_,fun j l q r hjl hq hr=>?_⟩
    ·rcases fro' b o e with z|z
     ·exact s.fro b o z
     ·exact .inr (zh b z)
    ·refine sH b o ?_
     rw[Zfa fun z=>?_]
     ·exact s.old b o e
     ·obtain⟨q,hq,e'⟩:=inO b z
      rw[e',(s.ok i q hq).2.1]at e;cases e
    ·by_cases hj:j=i
     ·subst hj
      rw[List.getElem?_set_self hil]at e
      cases e
      rw[Zo]
      exact⟨_,hv,.oL hp kd'⟩
     ·rw[List.getElem?_set_ne (Ne.symm hj)]at e
      obtain⟨v,h1,h2⟩:=s.at' j sv e
      rw[Zu hj]
      exact⟨v,h1,h2.mono sF⟩
    ·by_cases hj:j=i
     ·subst hj;rw[Zo];exact nd'
     ·rw[Zu hj];exact s.nod j
    ·by_cases hj:j=i
     ·subst hj
      rw[Zo]at hq
      obtain⟨x1,x2,x3⟩:=ok' q hq
      exact⟨x1,zh _ x2,x3⟩
     ·rw[Zu hj]at hq
      obtain⟨x1,x2,x3⟩:=s.ok j q hq
      refine⟨?_,x2,sH _ _ (keep j hj q hq)⟩
      cases z:F' q.1 with
      |none=>rfl
      |some u=>
       rcases fro' _ u z with y|y
       ·rw[x1]at y;cases y
       ·rw[keep j hj q hq]at y;cases y
    ·by_cases hj:j=i
     ·subst hj
      rw[Zo]at hq
      rw[Zu (Ne.symm hjl)]at hr
      intro e
      have z:=(ok' q hq).2.1
      rw[e,keep l (Ne.symm hjl) r hr]at z;cases z
     ·by_cases hl:l=i
      ·subst hl
       rw[Zo]at hr
       rw[Zu hj]at hq
       intro e
       have z:=(ok' r hr).2.1
       rw[←e,keep j hj q hq]at z;cases z
      ·rw[Zu hj]at hq
       rw[Zu hl]at hr
       exact s.sep j l q r hjl hq hr
  ·cases e
 ·cases e
noncomputable def Zbj(i:Nat)(fx:FX):FS:=fun δ=>match δ[i]? with
 |some (some (.oL _ xss0))=>if xss0.length=0 then none else(fx δ).bind fun
  | .x e δ1=>some (.ex e δ1)
  | .v rv δ1=>(frz rv δ1).bind fun r=>match r.2[i]? with
   |some (some (.oL p xss))=>(xss[xss.length- 1]?).bind fun xs=>if xs.length<PySem.sizeLine then some (.nx (r.2.set i (some (.oL p (xss.set (xss.length- 1) (xs++[r.1]))))))else none
   |_=>none
 |_=>none
theorem Zld{i:Nat}{fx:FX}(h:Zv Z (Zbj i fx) E σ H):Zg7 (tBM K "list" Zcz (tTop K i) (Zee (Zc4 Z fx) tNil)) E σ H:=by
 obtain⟨F,δ,own,fl,s,e,k⟩:=h
 unfold Zbj at e
 split at e
 ·rename_i p0 xss0 hi
  split at e
  ·cases e
  rename_i hn0
  obtain⟨rx,f3,e⟩:=Option.bind_eq_some_iff.mp e
  obtain⟨xs0,hx0⟩:∃xs0,xss0[xss0.length- 1]? =some xs0:=⟨xss0[xss0.length- 1]'(by omega),List.getElem?_eq_getElem (by omega)⟩
  obtain⟨a,ws,ns,b,vs0,hv,en,kd,hH,hw,m0,hb0,_,top⟩:=Zq3 s hi hx0
  refine top _ ?_
  refine⟨.inl ⟨rfl,vs0,.inl (.inl hb0)⟩,F,δ,own,_,s,f3,?_⟩
  cases rx with
  |x x1 δ1=>cases e;exact fun H' F' own' cls od=>k σ H' F' own' cls od
  |v rv δ1=>
  obtain⟨⟨d,δ2⟩,f4,e⟩:=Option.bind_eq_some_iff.mp e
  intro w H1 F1 own1 sH1 sF1 s1 r1
  obtain⟨F2,sF2,s2,r2⟩:=s1.settleR r1
  obtain⟨F3,own3,sF3,s3,r3⟩:=s2.frzR r2 f4
  dsimp only at e
  split at e
  ·rename_i p xss ho
   obtain⟨xs,f5,e⟩:=Option.bind_eq_some_iff.mp e
   split at e
   ·rename_i hz
    cases e
    obtain⟨a3,ws3,ns3,hv3,en3,kd3,hp3,hH3,r1',r2'⟩:=Zd7 s3 ho
    rw[hv]at hv3;cases hv3
    have:some (HO.lst ws3)=some (HO.lst ws):=hH3.symm.trans (sH1 _ _ hH)
    cases this
    have c1:ws[xss.length- 1]? =some (.ref b):=by rw[kd3.length];exact hw
    obtain⟨ys,vs,k1,k2,k3,k4⟩:=kd3.app c1 r2'
    rw[f5]at k1
    cases k1
    obtain⟨ns',j1,j2,j3⟩:=k4 r3
    have mb3:(a,HO.lst ws)∈own3 i:=by rw[en3];exact List.mem_cons_self
    have mbb:(b,HO.lst vs)∈own3 i:=by rw[en3];exact List.mem_cons_of_mem _ k2
    have hne:a≠b:=fun z=>r1' (List.mem_map.mpr ⟨_,k2,z.symm⟩)
    refine⟨b,vs,w,rfl,rfl,(s3.ok i _ mbb).2.2,by rw[←k3.length];exact hz,?_⟩
    refine k σ _ F3 _ (sF1.trans (sF2.trans sF3)) (s3.change (sv':=.oL p (xss.set (xss.length- 1) (xs++[d]))) (o':=.lst (vs++[w])) (ns':=(a,.lst ws)::ns') ho hv mbb (.oL hp3 j1) (fun q hq=>?_) ?_)
    ·rcases List.mem_cons.mp hq with z|z
     ·exact .inr ⟨by rw[z];exact mb3,by rw[z];exact hne⟩
     ·rcases j3 q z with z|⟨z,z2⟩
      ·exact .inl z
      ·exact .inr ⟨by rw[en3];exact List.mem_cons_of_mem _ z,z2⟩
    ·show(a::adr ns').Nodup
     rw[j2]
     exact List.nodup_cons.mpr ⟨r1',r2'⟩
   ·cases e
  ·cases e
 ·cases e
end
section
variable{X:Cx}{Z:Ent X.K}{a b c:Expr}{fa fb fc:FE}{fx:FX}{pos:Pos}
theorem Zq5(i:Nat){k:Nat}{f:Addr}{fd:FuncData}{ps:List Str}{g:Addr→List (List D)→Option MR}{x:Str}{p cpos:Pos}(F:FnOk X.prog X.w X.K X.mg X.base (CX1 X.prog X.w) k f fd ps (spMX X.K g))(hr:Room k X.A)(hm:X.mg x=some (.ref f))(hk:PySem.W.keepIn X.K (.ref f)=true)(hb:Zat X.K fd ps [])
  (th:Zmd X Z.x) (ha:PE X a (tVar i)) (hg:Gl X x:=by rfl) (hdb:(x==("__debug__":Str))=false:=by decide) (he:starEach [a] X.env=(false,eval a X.env)::starEach [] X.env:=by rfl) (hpl:(backTo cpos (starEach [] X.env)).any (·.1)=false:=by rfl) (hsw:swapsWith (.Call (.Name x p) [a] [] cpos) none pos.line X.env=pure false:=by rfl):
  PS X (.Expr (.Call (.Name x p) [a] [] cpos) pos) (Zv Z (Zek i g)):=(Zed (Zjp F hr hg hm hk hb th (Zac ha Zbb he) hdb he hpl) hsw).imp fun _ _ _ h=>Zw7 h
theorem Zle(i:Nat){apos cpos:Pos}(ha:PE X a (tTop X.K i))(hb:PE X b (Zc4 Z fx))(hbase:attributeBase a "append" X.env (eval a X.env)=eval a X.env:=by rfl)
  (hfew:((backTo cpos (starEach [b] X.env)).all (fun x=>!x.1)&&(backToKw cpos (keywordEach [] X.env)).all (fun x=>x.1.isSome)&&decide ([b].length+([]:List Keyword).length+(if([]:List Keyword).isEmpty then 0 else 1)<30))=true:=by rfl)
  (hline:(apos.endLine==cpos.line)=true:=by rfl) (hs:starEach [b] X.env=(false,eval b X.env)::starEach [] X.env:=by rfl) (hpl:(backTo cpos (starEach [] X.env)).any (·.1)=false:=by rfl) (hsw:swapsWith (.Call (.Attribute a "append" apos) [b] [] cpos) none pos.line X.env=pure false:=by rfl):
  PS X (.Expr (.Call (.Attribute a "append" apos) [b] [] cpos) pos) (Zv Z (Zbj i fx)):=
 (Zed (Zhk PySem.F.plainAttrs_list PySem.F.slot_list_append PySem.F.type_list_append Zc0 ha (Zac hb Zbb hs) hbase hfew hline hs hpl) hsw).imp fun _ _ _ h=>Zld h
end
end DL
namespace L2
open PySem PySem.Spec PyProof.Rows
theorem Zja:fillsNumberSlot (.type "tuple") "mul"=pure false:=
 PySem.fillsNumberSlot_seq (id:="tuple.__mul__") (r:=some (.builtin "tuple.__rmul__")) PySem.F.slot_tuple_mul.lookup (by decide+kernel) PySem.F.slot_tuple_rmul.lookup (by decide+kernel)
theorem Zjb:seqRepeat? (.type "tuple")=pure (some (.builtin "tuple.__mul__")):=by
 have h1:=PySem.seqSlot_of (T:="tuple") (name:="__mul__") (id:="tuple.__mul__") PySem.F.slot_tuple_mul.lookup (by decide+kernel)
 have h2:=PySem.seqSlot_of (T:="tuple") (name:="__rmul__") (id:="tuple.__rmul__") PySem.F.slot_tuple_rmul.lookup (by decide+kernel)
 unfold seqRepeat?
 rw[h1,h2]
 rfl
theorem Ztk(k:Int)(t:Tok)(b:Addr)(us:Array Value)(n:Nat)(dd:Option Addr)(sl:Array (Option Value)):
  Meets (Builtin.«int.__rmul__» ⟨[.int k t,.ref b],[]⟩) (fun _ R s=>s.heap.get? b=some {cls:=.type "tuple",dict:=dd,data:=.seq us n,slots:=sl}∧R (.ok (.ret Value.notImplemented)) s):=
 .of_wp fun P W B R s q=>by
  obtain⟨x1,x2,x3,x4,x5⟩:=s
  obtain⟨hl,q⟩:=q
  wp_walk
  exact⟨_,rfl,q⟩
theorem Zic(xs:Array Value):∀(k:Nat) (acc:Array Value),((List.replicate k xs).foldl (· ++ ·) acc).size=acc.size+k*xs.size
 |0,acc=>by simp
 |k+1,acc=>by
  rw[List.replicate_succ,List.foldl_cons,Zic xs k,Array.size_append,Nat.succ_mul]
  omega
theorem Zp1(b:Addr)(us:Array Value)(n:Nat)(dd:Option Addr)(sl:Array (Option Value))(k:Int)(t:Tok)(h0:us.isEmpty=false)(h1:2≤k)(h2:k≤1000)(h3:us.size≤1000):
  Meets (Builtin.«tuple.__mul__» ⟨[.ref b,.int k t],[]⟩) (fun _ R s=>s.heap.get? b=some {cls:=.type "tuple",dict:=dd,data:=.seq us n,slots:=sl}∧R (.ok (.ret (Value.ref s.heap.objs.size))) {s with heap:=s.heap.push {cls:=Value.type "tuple",data:=Data.seq ((List.replicate k.toNat us).foldl (· ++ ·) #[])},toks:=s.toks}):=
 .of_wp fun P W B R s q=>by
  obtain⟨x1,x2,x3,x4,x5⟩:=s
  obtain⟨hl,q⟩:=q
  have c1:¬(decide (k< -2^63)||decide (k≥2^63))=true:=by
   rw[decide_eq_false (by omega),decide_eq_false (by omega)];exact Bool.false_ne_true
  have c2:¬(us.isEmpty||k==1)=true:=by
   rw[h0,beq_eq_false_iff_ne.mpr (by omega)];exact Bool.false_ne_true
  have c3:¬(decide (k≤0)||us.isEmpty)=true:=by
   rw[h0,decide_eq_false (by omega)];exact Bool.false_ne_true
  have hm:us.size*k.toNat≤1000*1000:=Nat.mul_le_mul h3 (by omega)
  have hk:((us.size*k.toNat:Nat):Int)=(us.size:Int)*k:=by
   rw[Int.natCast_mul,Int.toNat_of_nonneg (by omega)]
  have c4:¬(us.size:Int)*k > (2^63- 1) / 8:=by omega
  have c5:¬Builtin.Tuple.tupleTooMany ((us.size:Int)*k)=true:=by
   rw[←hk]
   unfold Builtin.Tuple.tupleTooMany
   rw[decide_eq_false (by have:(1000*1000:Nat)≤sizeLine:=(by decide);omega)];exact Bool.false_ne_true
  have hs:=Zic us k.toNat #[]
  rw[Nat.mul_comm]at hs
  have hz:((List.replicate k.toNat us).foldl (· ++ ·) #[]).size≤sizeLine:=by
   rw[hs];have:(1000*1000:Nat)≤sizeLine:=(by decide);simp;omega
  have f1:=AutoSeq1.idx_int
  wp_walk using wpAny_loadPart' hl
  split
  ·rename_i z;exact absurd z c1
  wp_walk using wpAny_loadPart' hl
  split
  ·rename_i z;exact absurd z c2
  wp_walk using wpAny_loadPart' hl
  split
  ·rename_i z;exact absurd hz (Nat.not_le.mpr z)
  wp_walk using wpAny_loadPart' hl
  exact⟨_,rfl,q⟩
end L2
namespace L2
open PySem PySem.Spec PyProof.Rows
section
variable{X:Cx}
noncomputable def Zw8(K:PySem.W.Frag):R2:=fun x y H Q=>∃a k xs,x= .ref a∧y= .int k∧SqT K H a xs∧xs≠[]∧2≤k∧k≤1000∧xs.length≤1000∧∀p,H p=none→Q (.ref p) (upd H p (.tup (List.replicate k.toNat xs).flatten))
theorem Ztl:OpR X (binaryOp .Mult) (Zw8 X.K):=by
 intro pins s σ H x y v u Q I rx ry h
 obtain⟨a,k,xs,rfl,rfl,ha,hx,h1,h2,h3,q⟩:=h
 cases rx
 obtain⟨t,rfl⟩:=ry
 obtain⟨its,r1,p1,_⟩:=I.tuple ha
 have hl:=r1.length
 have h0:its.toArray.isEmpty=false:=by
  cases its with
  |nil=>exact absurd (r1.nil_iff.mp rfl) hx
  |cons b r=>rfl
 obtain⟨⟨cls,dd,data,sl⟩,ho,hc,n,hd⟩:=id p1
 simp only at hc hd
 subst hc hd
 have hnew:(List.replicate k.toNat its.toArray).foldl (· ++ ·) #[]=(List.replicate k.toNat its).flatten.toArray:=by
  have:=Zhl its k.toNat []
  rw[List.nil_append]at this
  exact this
 have hm:k.toNat*xs.length≤1000*1000:=Nat.mul_le_mul (by omega) h3
 have y:=Zp1 a its.toArray n dd sl k t h0 h1 h2 (by rw[List.size_toArray,←hl];exact h3)
 rw[hnew]at y
 refine wpAny_binaryOp_repeat_ref (T:="tuple") (U:="int") (by decide) ⟨_,ho,rfl⟩ (fun s'=>typeIs_int s' k t) Zja F.fills_int_mul F.slot_int_rmul Zjb F.slot_int_index.lookup
  (call_meets F.slot_int_rmul (typeIs_int s k t) F.entry_int_rmul (F.args_int_rmul_2 _ _) (Ztk k t a its.toArray n dd sl)
   ⟨ho,rfl,⟨_,ho,rfl⟩,call_meets F.slot_tuple_mul ⟨_,ho,rfl⟩ F.entry_tuple_mul (F.args_tuple_mul_2 _ _) y ⟨ho,?_⟩⟩)
 refine⟨.ref s.heap.objs.size,_,I.laid (t':=s.toks) (o:=.tup (List.replicate k.toNat xs).flatten) (fun b ob q=>Heap.get?_push_of_some _ q) (Nat.le_refl _) ?_,rfl,q _ (I.hok.fresh (Nat.le_refl _))⟩
 exact⟨by rw[Zr7];exact Nat.le_trans hm (by decide),_,r1.rep k.toNat,IsTup.new _ _⟩
end
end L2
namespace DL
open PySem PySem.Spec PyProof.Rows L2
variable{K:PySem.W.Frag}
section
variable{Z:Ent K}
noncomputable def Zlf:D→D→Option SV
 | .tup xs,.int k=>if xs.isEmpty=false∧2≤k∧k≤1000∧xs.length≤1000 then some (.fz (.tup (List.replicate k.toNat xs).flatten))else none
 |_,_=>none
theorem Zp2{xs:List D}{k:Int}(h0:xs.isEmpty=false)(h1:2≤k)(h2:k≤1000)(h3:xs.length≤1000):Zlf (.tup xs) (.int k)=some (.fz (.tup (List.replicate k.toNat xs).flatten)):=by
 show(if _ then _ else _)=_
 rw[if_pos ⟨h0,h1,h2,h3⟩]
theorem Zw9:Zbg Z (Zw8 K) Zlf:=by
 intro F H σ δ own x y d1 d2 sv Q s r1 r2 e k
 unfold Zlf at e
 split at e
 ·split at e
  ·rename_i hz
   cases e
   obtain⟨a,vs,ex,ha,ra⟩:=r1.tup s.le
   have hl:=ra.length
   refine⟨a,_,vs,ex,r2.int,ha,fun z=>?_,hz.2.1,hz.2.2.1,by rw[←hl];exact hz.2.2.2,fun p hp=>k.tup s (Reps.rep ra _) hp⟩
   rw[z]at ra
   cases ra
   exact absurd hz.1 (by decide)
  ·cases e
 ·cases e
end
section
variable{X:Cx}{Z:Ent X.K}{a b:Expr}{fa fb:FE}{pos:Pos}
theorem Zxa(ha:PE X a (Zc Z fa))(hb:PE X b (Zc Z fb)):PE X (.BinOp a .Mult b pos) (Zc Z (binF Zlf fa fb)):=Zk6 Ztl Zw9 ha hb
end
end DL
namespace My
open DL PySem
theorem Zh{n:Nat}(h:n≤16777216):n≤PySem.sizeLine:=h
theorem Zdu{n:Nat}(h:n<16777216):n<PySem.sizeLine:=h
noncomputable abbrev LET:Str:="ABCDEFGHIJKLMNOPQRSTUVWXYZabcdefghijklmnopqrstuvwxyz"
theorem Za5(a b:Str):(a++b).length=a.length+b.length:=by
 show(a.cps++b.cps).size=a.cps.size+b.cps.size
 simp
theorem Z1g(c:Nat):(⟨#[c]⟩:Str).length=1:=rfl
theorem Zgt:∀xs:List Str,strs? (xs.map D.str)=some xs
 | []=>rfl
 |x::r=>by simp[Zgt r]
noncomputable def cat:List Str→Str
 | []=>""
 |x::r=>x++cat r
theorem Zj7:∀xs:List Str,Str.join (Str.ofString "") xs=cat xs
 | []=>rfl
 | [x]=>by show x=x++Str.empty;rw[Str.append_empty]
 |x::y::r=>by
  show x++Str.empty++Str.join (Str.ofString "") (y::r)=x++cat (y::r)
  rw[Str.append_empty,Zj7 (y::r)]
theorem Zxb(xs:List Str):Txt.join (Str.ofString "") xs=cat xs:=(StrLaws.glued_eq_join _ xs).trans (Zj7 xs)
theorem Z1h(sep:Str)(xs:List Str):Txt.join sep xs=Str.join sep xs:=StrLaws.glued_eq_join _ xs
theorem Zq6{sep:Str}{xs:List Str}{B:Nat}(h:∀x∈xs,x.length≤B)(hz:xs.length*B+xs.length*sep.length≤16777216):JoinOk sep xs=true:=by
 unfold JoinOk
 rw[StrLaws.joinFits h hz];rfl
theorem Zj8{te:FE}{f:D→D}{c:Option SV}{j:Nat}:∀(xs ys:List D),(∀x∈xs,∀zs,te [some (.fz x),c,some (.ol zs)]=some (.tmp (.fz (f x)),[some (.fz x),c,some (.ol zs)]))→ys.length+xs.length≤16777216→
  Zgl [.own,.cap j,.acc] 2 (Zap 0) Zhv te xs [none,c,some (.ol ys)]=some [none,c,some (.ol (ys++xs.map f))]
 | [],ys,_,_=>by simp
 |x::xs,ys,h,hl=>by
  rw[List.length_cons]at hl
  have ih:=Zj8 (te:=te) (f:=f) (c:=c) (j:=j) xs (ys++[f x]) (fun y hy=>h y (List.mem_cons_of_mem _ hy)) (by rw[List.length_append];simp;omega)
  have e1:=h x List.mem_cons_self ys
  have h4:ys.length<PySem.sizeLine:=Zdu (by omega)
  simp[e1,h4]
  simpa using ih
end My
namespace My
open DL PySem StrLaws Builtin.Str
noncomputable def gap(n:Nat):Nat→List Nat→Prop
 |_,[]=>True
 |a,p::r=>a≤p∧gap n (p+n) r
theorem Zj9{n:Nat}:∀{a:Nat} {P:List Nat},gap n a P→∀i∈P,a≤i
 |_,[],_,i,h=>nomatch h
 |a,p::r,g,i,h=>by
  rcases List.mem_cons.mp h with e|e
  ·rw[e];exact g.1
  ·have:=Zj9 g.2 i e
   have:=g.1
   omega
noncomputable def jl(y:List Nat):List (List Nat)→List Nat
 | []=>[]
 | [p]=>p
 |p::q::r=>p++y++jl y (q::r)
noncomputable def pos(n:Nat):Nat→List (List Nat)→List Nat
 |_,[]=>[]
 |_,[_]=>[]
 |a,p::q::r=>(a+p.length)::pos n (a+p.length+n) (q::r)
theorem Znp(n:Nat):∀(a:Nat) (ps:List (List Nat)),gap n a (pos n a ps)
 |_,[]=>True.intro
 |_,[_]=>True.intro
 |a,p::q::r=>⟨Nat.le_add_right _ _,Znp n _ (q::r)⟩
theorem Znq{y:List Nat}:∀(ps:List (List Nat)) (a i:Nat),i∈pos y.length a ps→a≤i∧i- a+y.length≤(jl y ps).length∧((jl y ps).drop (i- a)).take y.length=y
 | [],_,_,h=>nomatch h
 | [_],_,_,h=>nomatch h
 |p::q::r,a,i,h=>by
  show a≤i∧i- a+y.length≤(p++y++jl y (q::r)).length∧((p++y++jl y (q::r)).drop (i- a)).take y.length=y
  rcases List.mem_cons.mp h with e|e
  ·subst e
   rw[List.length_append,List.length_append,show a+p.length- a=p.length by omega]
   refine⟨by omega,by omega,?_⟩
   rw[List.append_assoc,List.drop_left,List.take_left]
  ·obtain⟨z1,z2,z3⟩:=Znq (q::r) (a+p.length+y.length) i e
   rw[List.length_append,List.length_append]
   refine⟨by omega,by omega,?_⟩
   rw[show i- a=(p++y).length+(i- (a+p.length+y.length)) by rw[List.length_append];omega,←List.drop_drop,List.drop_left]
   exact z3
theorem Zid(y:Str):∀ps:List Str,(Str.join y ps).cps.toList=jl y.cps.toList (ps.map fun p=>p.cps.toList)
 | []=>rfl
 | [p]=>rfl
 |p::q::r=>by
  show(p++y++Str.join y (q::r)).cps.toList=p.cps.toList++y.cps.toList++jl y.cps.toList ((q::r).map fun p=>p.cps.toList)
  rw[←Zid y (q::r)]
  simp[Str.cps_append]
theorem Za2(x:Str):x.cps.toList.length=x.length:=by simp[Str.length]
structure Sep(y:Str)(c o:Nat):Prop where
 at':y.cps.toList[o]? =some c
 one:∀j,y.cps.toList[j]? =some c→j=o
theorem Zka(x:Str)(l:List Nat)(i j:Nat)(h:(x.cps.toList.drop i).take (j- i)=l):strSub x i j=⟨l.toArray⟩:=by
 apply Str.ext'
 apply Array.toList_inj.mp
 rw[strSub_toList,h]
theorem Zkb{y:List Nat}(x:Str):∀(ps:List (List Nat)) (a:Nat),ps≠[]→x.cps.toList.drop a=jl y ps→a≤x.length→partsFrom x y.length a (pos y.length a ps)=ps.map fun p=>⟨p.toArray⟩
 | [],_,h,_,_=>absurd rfl h
 | [p],a,_,e,ha=>by
  show[strSub x a x.length]=[⟨p.toArray⟩]
  rw[Zka x p a x.length (by
   rw[e]
   show p.take _=p
   have:=congrArg List.length e
   rw[List.length_drop,Za2]at this
   have e2:(jl y [p]).length=p.length:=rfl
   rw[e2]at this
   rw[this];exact List.take_length)]
 |p::q::r,a,_,e,ha=>by
  have e:x.cps.toList.drop a=p++y++jl y (q::r):=e
  show strSub x a (a+p.length)::partsFrom x y.length (a+p.length+y.length) (pos y.length (a+p.length+y.length) (q::r))=⟨p.toArray⟩::((q::r).map fun p=>⟨p.toArray⟩)
  have l1:=congrArg List.length e
  rw[List.length_drop,Za2,List.length_append,List.length_append]at l1
  rw[Zka x p a (a+p.length) (by rw[e,show a+p.length- a=p.length by omega,List.append_assoc,List.take_left])]
  rw[Zkb x (q::r) (a+p.length+y.length) (by simp) (by
   rw[show a+p.length+y.length=a+(p++y).length by rw[List.length_append];omega,←List.drop_drop,e,List.drop_left]) (by omega)]
theorem Zp3(x:Str):1≤Builtin.Str.strKind x:=by unfold Builtin.Str.strKind;split<;> (try split)<;> decide
theorem Ztm{n a:Nat}:∀{ps:List (List Nat)},pos n a ps=[]→ps=[]∨∃p,ps=[p]
 | [],_=>.inl rfl
 | [p],_=>.inr ⟨p,rfl⟩
end My
namespace My
open DL PySem
theorem Zdv{tg:FG}{body:FS}{d:D}{ds:List D}{δ δ1 δ2:DSt}(h1:tg.run d δ=some δ1)(h2:body δ1=some (.nx δ2)):forD tg body (d::ds) δ=forD tg body ds δ2:=by
 show(tg.run d δ).bind _=_
 rw[h1,Option.bind_some,h2,Option.bind_some]
theorem Zfq{t:FT}{b:FS}{n:Nat}{δ δ1 δ2:DSt}(h1:t δ=some (true,δ1))(h2:b δ1=some (.nx δ2)):Zbk t b (n+1) δ=Zbk t b n δ2:=by
 show(t δ).bind _=_
 rw[h1,Option.bind_some]
 show(if true=true then(b δ1).bind _ else _)=_
 rw[if_pos rfl,h2,Option.bind_some]
theorem Zel{t:FT}{b:FS}{n:Nat}{δ δ1:DSt}(h1:t δ=some (false,δ1)):Zbk t b (n+1) δ=some (.nx δ1):=by
 show(t δ).bind _=_
 rw[h1,Option.bind_some]
 rfl
noncomputable abbrev S(l:List Nat):Str:=⟨l.toArray⟩
theorem Z0(l:List Nat):(S l).length=l.length:=by show l.toArray.size=_;simp
theorem Zcy(a b:List Nat):S a++S b=S (a++b):=by
 show(⟨a.toArray++b.toArray⟩:Str)=⟨(a++b).toArray⟩
 simp
theorem Zgu{a b:List Nat}(h:S a=S b):a=b:=by
 have:a.toArray=b.toArray:=congrArg Str.cps h
 simpa using this
theorem S_ne{a b:List Nat}(h:a≠b):S a≠S b:=fun e=>h (Zgu e)
theorem S_of(x:Str):x=S x.cps.toList:=by cases x;simp
theorem Zad(l:List Nat):(S l).cps.toList=l:=by simp
theorem Zga{α:Type}(p:List α)(i:Nat)(c:α)(h:p[i]? =some c):L2.atI p (i:Int)=some c:=by
 have hl:=(List.getElem?_eq_some_iff.mp h).1
 unfold L2.atI L2.ixN
 rw[if_pos (by omega),if_pos (by omega)]
 simpa using h
section
variable{κ:Type}[DecidableEq κ]
end
end My
namespace My
open DL PySem
noncomputable abbrev nats(s n:Nat):List D:=(List.range' s n).map fun i:Nat=>D.int (i:Int)
theorem Znr(n:Nat):Ziz 0 n=nats 0 n:=by
 unfold Ziz
 rw[List.range_eq_range']
 refine List.map_congr_left fun i _=>?_
 simp
noncomputable def Z1i(i:Nat):List D→List D
 | []=>[]
 |x::r=>.tup [.int (i:Int),x]::Z1i (i+1) r
theorem Zie{α:Type}(l:List α)(x n:Int)(hl:(l.length:Int)=n)(hn:0<n):∃c,c∈l∧L2.atI l (x % n)=some c:=by
 have h0:0≤x % n:=Int.emod_nonneg _ (by omega)
 have h1:x % n<n:=Int.emod_lt_of_pos _ hn
 obtain⟨j,hj⟩:=Int.eq_ofNat_of_zero_le h0
 have hjl:j<l.length:=by omega
 rw[hj]
 exact⟨l[j],List.getElem_mem hjl,Zga _ _ _ (List.getElem?_eq_getElem hjl)⟩
end My
namespace My
open DL PySem StrLaws Builtin.Str
end My
namespace My
open DL PySem StrLaws Builtin.Str
theorem Zns(s sub:Str)(hi limit:Nat)(hn:1≤sub.length):∀(m a:Nat) (found:Array Nat) (free:Nat) (P:List Nat),gap sub.length free P→(∀i∈P,a≤i∧i<a+m)→(∀i∈P,At s sub hi i)→
  (∀i,a≤i→free≤i→At s sub hi i→(i∈P∨∃p∈P,p<i∧i<p+sub.length))→
  (forIn (List.range' a m) (found,free) (occBody s sub hi limit)).run.fst.toList=found.toList++P.take (limit- found.size)
 |0,a,found,free,P,g,hb,hA,hm=>by
  have:P=[]:=by
   cases P with
   |nil=>rfl
   |cons p r=>have:=hb p List.mem_cons_self;omega
  subst this
  simp
 |m+1,a,found,free,P,g,hb,hA,hm=>by
  rw[List.range'_succ,List.forIn_cons]
  unfold occBody
  by_cases hl:found.size<limit
  ·by_cases ha:a∈P
   ·have h1:=Zj9 g a ha
    obtain⟨h2,h3⟩:=hA a ha
    rw[if_pos ⟨⟨⟨hl,h1⟩,h2⟩,h3⟩]
    obtain⟨P',rfl⟩:∃P',P=a::P':=by
     cases P with
     |nil=>cases ha
     |cons p r=>
      rcases List.mem_cons.mp ha with e|e
      ·exact⟨r,by rw[e]⟩
      ·have:=Zj9 g.2 a e
       have:=(hb p List.mem_cons_self).1
       omega
    have ih:=Zns s sub hi limit hn m (a+1) (found.push a) (a+sub.length) P' g.2 (fun i hi'=>by
      have z1:=Zj9 g.2 i hi'
      have z2:=(hb i (List.mem_cons_of_mem _ hi')).2
      omega) (fun i hi'=>hA i (List.mem_cons_of_mem _ hi')) (fun i hi' hf z=>by
      rcases hm i (by omega) (by omega) z with e|⟨p,hp,e⟩
      ·rcases List.mem_cons.mp e with e|e
       ·omega
       ·exact .inl e
      ·rcases List.mem_cons.mp hp with e1|e1
       ·omega
       ·exact .inr ⟨p,e1,e⟩)
    refine Eq.trans ih ?_
    rw[Array.toList_push,Array.size_push,show limit- found.size=(limit- (found.size+1))+1 by omega,List.take_succ_cons,List.append_assoc]
    rfl
   ·rw[if_neg fun z=>by
     rcases hm a (Nat.le_refl _) z.1.1.2 ⟨z.1.2,z.2⟩with e|⟨p,hp,e⟩
     ·exact ha e
     ·have:=(hb p hp).1;omega]
    refine Zns s sub hi limit hn m (a+1) found free P g (fun i hi'=>?_) hA (fun i hi'=>hm i (by omega))
    have z:=hb i hi'
    have:i≠a:=fun e=>ha (by rw[←e];exact hi')
    omega
  ·rw[if_neg fun z=>hl z.1.1.1]
   have e0:limit- found.size=0:=by omega
   have ih:∀(l:List Nat) (st:Array Nat×Nat),¬st.fst.size<limit→(forIn l st (occBody s sub hi limit)).run.fst=st.fst:=by
    intro l
    induction l with
    |nil=>intro st _;rfl
    |cons x l ih=>
     intro st hst
     rw[List.forIn_cons]
     unfold occBody
     rw[if_neg fun z=>hst z.1.1.1]
     exact ih _ hst
   have:=ih (List.range' (a+1) m) (found,free) hl
   refine Eq.trans (congrArg Array.toList this) ?_
   rw[e0];simp
noncomputable def Zfr(y l:List Nat)(i:Nat):Prop:=i+y.length≤l.length∧(l.drop i).take y.length=y
noncomputable def Fits(y:List Nat):List (List Nat)→Prop
 | []=>False
 | [p]=>∀i,¬Zfr y p i
 |p::q::r=>(∀i,i<p.length→¬Zfr y (p++y++jl y (q::r)) i)∧Fits y (q::r)
theorem Zd8(x y:Str)(i:Nat):At x y x.length i↔Zfr y.cps.toList x.cps.toList i:=by
 unfold At Zfr
 rw[subAt_eq,Za2,Za2]
 constructor
 ·rintro⟨h1,h2⟩;exact⟨h1,eq_of_beq h2⟩
 ·rintro⟨h1,h2⟩;exact⟨h1,by rw[h2];exact beq_self_eq_true _⟩
theorem Znt{y:List Nat}:∀(ps:List (List Nat)) (a i:Nat),Fits y ps→a≤i→Zfr y (jl y ps) (i- a)→(i∈pos y.length a ps∨∃p∈pos y.length a ps,p<i∧i<p+y.length)
 | [],_,_,h,_,_=>h.elim
 | [p],a,i,h,_,s=>(h _ s).elim
 |p::q::r,a,i,h,ha,s=>by
  have s:Zfr y (p++y++jl y (q::r)) (i- a):=s
  show i∈(a+p.length)::pos y.length (a+p.length+y.length) (q::r)∨_
  by_cases h1:i- a<p.length
  ·exact(h.1 _ h1 s).elim
  by_cases h2:i=a+p.length
  ·exact .inl (by rw[h2];exact List.mem_cons_self)
  by_cases h3:i<a+p.length+y.length
  ·exact .inr ⟨a+p.length,List.mem_cons_self,by omega,h3⟩
  ·have e:i- a=(p++y).length+(i- (a+p.length+y.length)):=by rw[List.length_append];omega
   obtain⟨s1,s2⟩:=s
   rw[e,←List.drop_drop,List.drop_left]at s2
   rw[List.length_append]at s1
   have:=Znt (q::r) (a+p.length+y.length) i h.2 (by omega) ⟨by rw[e,List.length_append]at s1;omega,s2⟩
   rcases this with z|⟨p',hp,z⟩
   ·exact .inl (List.mem_cons_of_mem _ z)
   ·exact .inr ⟨p',List.mem_cons_of_mem _ hp,z⟩
theorem Zkc(x y:Str)(hn:1≤y.length)(ps:List (List Nat))(h:Fits y.cps.toList ps)(e:x.cps.toList=jl y.cps.toList ps)(limit:Nat):
  occurrences x y 0 x.length limit=(pos y.length 0 ps).take limit:=by
 rw[occ_eq]
 have hA:∀i∈pos y.length 0 ps,At x y x.length i:=fun i hi=>by
  rw[Zd8,e]
  rw[←Za2 y]at hi
  have:=Znq ps 0 i hi
  exact⟨by simpa using this.2.1,by simpa using this.2.2⟩
 have:=Zns x y x.length limit hn (x.length+1- 0) 0 #[] 0 (pos y.length 0 ps) (Znp _ _ _) (fun i hi=>by
  have:=(hA i hi).1
  omega) hA (fun i _ _ z=>by
  rw[Zd8,e]at z
  have:=Znt ps 0 i h (Nat.zero_le _) (by simpa using z)
  rwa [Za2]at this)
 simpa using this
theorem Zgb(x y:Str)(hn:1≤y.length)(hk:Builtin.Str.strKind y=1)(ps:List (List Nat))(h:Fits y.cps.toList ps)(e:x.cps.toList=jl y.cps.toList ps):Txt.split x y=ps.map S:=by
 have hP:occurrences x y 0 x.length (x.length+1)=pos y.length 0 ps:=by
  have h1:=Zkc x y hn ps h e (x.length+1)
  have h2:=Zkc x y hn ps h e ((x.length+1)+(pos y.length 0 ps).length)
  rw[List.take_of_length_le (Nat.le_add_left _ _)]at h2
  have h3:=occ_length_le_len x y 0 x.length ((x.length+1)+(pos y.length 0 ps).length)
  rw[h2]at h3
  rw[h1,List.take_of_length_le (by omega)]
 have h0:ps≠[]:=fun z=>by rw[z]at h;exact h
 have one:pos y.length 0 ps=[]→[x]=ps.map S:=fun z=>by
  rcases Ztm z with z|⟨p,z⟩
  ·exact absurd z h0
  ·rw[z]at e⊢
   rw[S_of x,e];rfl
 unfold Txt.split
 by_cases hs:(decide (x.length<y.length)||decide (Builtin.Str.strKind x<Builtin.Str.strKind y))=true
 ·rw[if_pos hs]
  have hlt:x.length<y.length:=by
   rw[hk]at hs
   have:=Zp3 x
   rcases Bool.or_eq_true_iff.mp hs with z|z
   ·exact of_decide_eq_true z
   ·have:=of_decide_eq_true z;omega
  refine one ?_
  cases hq:pos y.length 0 ps with
  |nil=>rfl
  |cons i r=>
   have hi:i∈pos y.length 0 ps:=by rw[hq];exact List.mem_cons_self
   rw[←Za2 y]at hi
   have:=(Znq ps 0 i hi).2.1
   rw[←e,Za2,Za2]at this
   omega
 ·rw[if_neg hs,hP]
  by_cases he:(pos y.length 0 ps).isEmpty=true
  ·rw[if_pos he]
   exact one (List.isEmpty_iff.mp he)
  ·rw[if_neg he,partsBetween_eq]
   have z:=Zkb (y:=y.cps.toList) x ps 0 h0 (by rw[List.drop_zero];exact e) (Nat.zero_le _)
   rw[Za2]at z
   exact z
theorem Zy3(y p:List Nat)(q:List Nat)(r:List (List Nat)):jl y (p::q::r)=p++y++jl y (q::r):=rfl
theorem Znu{y:List Nat}{c:Nat}{y':List Nat}(ey:y=c::y')(p:List Nat)(hp:c∉p)(q:List Nat)(r:List (List Nat))(h:Fits y (q::r)):Fits y (p::q::r):=by
 refine⟨fun i hi s=>?_,h⟩
 have z:=congrArg List.head? s.2
 rw[ey,List.head?_cons]at z
 rw[←ey,List.append_assoc,List.head?_take,List.head?_drop,List.getElem?_append_left hi]at z
 rw[if_neg (by rw[ey];simp)]at z
 exact hp (List.mem_of_getElem? z)
theorem Zp4{y:List Nat}{c:Nat}(hc:c∈y)(p:List Nat)(hp:c∉p):Fits y [p]:=fun i s=>by
 have:c∈(p.drop i).take y.length:=by rw[s.2];exact hc
 exact hp (List.mem_of_mem_drop (List.mem_of_mem_take this))
theorem Zem{c:Nat}:∀ps:List (List Nat),ps≠[]→(∀p∈ps,c∉p)→Fits [c] ps
 | [],h,_=>(h rfl).elim
 | [p],_,h=>Zp4 (c:=c) (by simp) p (h p List.mem_cons_self)
 |p::q::r,_,h=>Znu (c:=c) rfl p (h p List.mem_cons_self) q r (Zem (q::r) (by simp) fun x hx=>h x (List.mem_cons_of_mem _ hx))
end My
noncomputable section
local macro_rules| `(tactic|trivial)=> `(tactic|first|exact Or.inl rfl|exact Or.inr (Or.inl rfl)|exact Or.inr (Or.inr rfl)|exact Or.inr rfl)
namespace Gen
open PySem PySem.Spec PyProof.Rows L2 DL
noncomputable def top(i:Nat):Stmt:=PySem.Challenge.pw_citeward_k15_no_template.main.body.getD i (.Pass ⟨0,0,0,0⟩)
noncomputable abbrev FUEL:Nat:=20000
noncomputable abbrev Zdw:Stmt:=top 36
noncomputable abbrev Zc8:Stmt:=top 26
noncomputable abbrev Zen:Stmt:=top 25
noncomputable abbrev Zeo:Stmt:=top 24
noncomputable abbrev Zb6:Stmt:=top 27
noncomputable abbrev Zc9:Stmt:=top 28
noncomputable abbrev Zda:Stmt:=top 14
noncomputable abbrev Zco:Stmt:=top 15
noncomputable abbrev Zep:Stmt:=top 16
noncomputable abbrev Zcp:Stmt:=top 31
noncomputable abbrev Za6:Stmt:=top 30
noncomputable abbrev Zcq:Stmt:=top 29
noncomputable abbrev Zbn:Stmt:=top 23
noncomputable abbrev Zb7:Stmt:=top 38
noncomputable abbrev Zbp:Stmt:=top 33
noncomputable abbrev Za3:Stmt:=top 32
noncomputable abbrev Zb8:Stmt:=top 35
noncomputable abbrev Zb9:Stmt:=top 37
noncomputable abbrev Zd9:Stmt:=top 39
noncomputable def Zeq:FS:=
 seqF (setF 1 (lstF (Zc7 ["","a: ","{title}","[{book|part}, ]","{hands 2 1} (x)","[p. [{pages}; [{a}]]]","{a|b|c|d}","{x 9 0}"] (Z6)))) (retF (binF addD (binF addD (binF ixD (Zd 1) (binF modD (Zd 0) (Za (.int 8)))) (binF ixD (Zd 1) (binF modD (binF Zi0 (Zd 0) (Za (.int 8))) (Za (.int 8))))) (binF ixD (Zd 1) (binF modD (binF Zi0 (Zd 0) (Za (.int 64))) (Za (.int 8))))))
noncomputable def Zcd:List D→Option SV:=Zds Zeq 2
noncomputable def Zbd : FT :=
  andF (Zz (binF ltD (Zd 2) (Zao lenD (Zb (Zd 0) Zj)))) (Zz (binF inW (binF ixD (Zd 0) (Zd 2)) (Za (.str "ABCDEFGHIJKLMNOPQRSTUVWXYZabcdefghijklmnopqrstuvwxyz0123456789 .,!?'-/()&+*=:;"))))
noncomputable def Zcr:FS:=
 augF 2 1
noncomputable def Zdx:FS:=
 seqF (setF 2 (Zd 1)) (seqF (Zbk Zbd Zcr FUEL) (retF (Zd 2)))
noncomputable def Za7:List D→Option SV:=Zds Zdx 3
noncomputable def Zea:FS:=
 seqF (ifS (Zz (binF inW (binF ixD (Zd 0) (Zd 1)) (Za (.str "[]")))) (retF (binF addD (Zd 1) (Za (.int 1)))) (Zba)) (seqF (ifS (Zz (binF eqX (binF ixD (Zd 0) (Zd 1)) (Za (.str "{")))) (setF 2 (binF addD (bmF "str" Zj4 (Zd 0) (Zb (Za (.str "}")) (Zb (Zd 1) Zj))) (Za (.int 1)))) (setF 2 (Zck 2 Za7 (Zb (Zd 0) (Zb (Zd 1) (Zj)))))) (seqF (ifS (Zz (binF leD (Zd 2) (Zd 1))) (Zcc "NoStyle") (Zba)) (retF (Zd 2))))
noncomputable def Zbl:List D→Option XO:=outX Zea 3
noncomputable def Zxc:List D→Option SV:=valG Zbl
noncomputable def Zae:FT:=
 Zz (binF ltD (Zd 2) (Zao lenD (Zb (Zd 0) Zj)))
noncomputable def Zam:FS:=
 seqF (setX 3 (Zfm 2 Zbl (Za1 (Ze0 (Zd 0)) (Za1 (Ze0 (Zd 2)) (Zbw))))) (seqF (appF 1 (slF slD (Zd 0) (Zfy (Zd 2)) (Zfy (Zd 3)))) (setF 2 (Zd 3)))
noncomputable def Zdb:FS:=
 seqF (setF 1 (lstF (Z6))) (seqF (setF 2 (Za (.int 0))) (seqF (Zbk Zae Zam FUEL) (retF (Zd 1))))
noncomputable def Zas:List D→Option XO:=outX Zdb 4
noncomputable def Zxd:List D→Option SV:=valG Zas
noncomputable def Zbq:FS:=
 seqF (ifS (Zz (binF gtD (Zia 0) (Za (.int 3)))) (Zcc "NoStyle") (Zba)) (Zi8 0)
noncomputable def Z8:Addr→List (List D)→Option MR:=Znm Zbq 1
noncomputable def Zby:FS:=
 seqF (ifS (Zz (binF eqX (Zia 0) (Za (.int 1)))) (Zcc "NoStyle") (Zba)) (seqF (Zib 1 0) (seqF (ifS (Zz (binF eqX (Zao lenD (Zb (Zd 1) Zj)) (Za (.int 0)))) (Zcc "NoStyle") (Zba)) (Zcn 0 (tupF (Zt (Za (.str "group")) (Zt (Zao Zf9 (Zb (Zd 1) Zj)) (Z6)))))))
noncomputable def Z7:Addr→List (List D)→Option MR:=Znm Zby 2
noncomputable def Zcs:FE:=
 binF inW (Zd 0) (Zd 1)
noncomputable def Zdy:FS:=
 retF (Zao allD (Zb (Zpc [.own,.cap 1,.acc] 2 (anyI (Zd 0)) (Zap 0) (Zhv) Zcs) Zj))
noncomputable def Zbz:List D→Option SV:=Zds Zdy 2
noncomputable def Zdc:FS:=
 seqF (ifS (notF (Zz (unF (isiD "str") (Zd 0)))) (retF (Za (.bl false))) (Zba)) (retF (andV (Zmp leD leD (Za (.int 1)) (Zao lenD (Zb (Zd 0) Zj)) (Zd 2)) (Zck 2 Zbz (Zb (Zd 0) (Zb (Zd 1) (Zj))))))
noncomputable def Zaj:List D→Option SV:=Zds Zdc 3
noncomputable def Zfs:FS:=
 retF (Zck 3 Zaj (Zb (Zd 0) (Zb (Za (.str "abcdefghijklmnopqrstuvwxyz")) (Zb (Za (.int 8)) (Zj)))))
noncomputable def Zdd:List D→Option SV:=Zds Zfs 1
noncomputable def Zbm:FS:=
 ifS (orF (notF (Zz (Zck 1 Zdd (Zb (Zd 0) (Zj))))) (Zz (binF eqX (Zd 0) (Za (.str "note"))))) (Zcc "NoStyle") (Zba)
noncomputable def Z3:List D→Option XO:=outX Zbm 1
noncomputable def Zq7:List D→Option SV:=valG Z3
noncomputable def Z5:FS:=
 seqF (Zm5 (Zfm 1 Z3 (Za1 (Ze0 (binF ixD (Zd 0) (Za (.int 0)))) (Zbw)))) (seqF (ifS (notF (Zz (Zck 3 Zaj (Zb (binF ixD (Zd 0) (Za (.int 1))) (Zb (Za (.str "123456789")) (Zb (Za (.int 1)) (Zj))))))) (Zcc "NoStyle") (Zba)) (seqF (ifS (notF (Zz (Zck 3 Zaj (Zb (binF ixD (Zd 0) (Za (.int 2))) (Zb (Za (.str "012")) (Zb (Za (.int 1)) (Zj))))))) (Zcc "NoStyle") (Zba)) (retF (tupF (Zt (Za (.str "hands")) (Zt (binF ixD (Zd 0) (Za (.int 0))) (Zt (Zao Zgs (Zb (binF ixD (Zd 0) (Za (.int 1))) Zj)) (Zt (Zao Zgs (Zb (binF ixD (Zd 0) (Za (.int 2))) Zj)) (Z6)))))))))
noncomputable def Zq:List D→Option XO:=outX Z5 1
noncomputable def Zkd:List D→Option SV:=valG Zq
noncomputable def Zaq:FS:=
 Zm5 (Zfm 1 Z3 (Za1 (Ze0 (Zd 3)) (Zbw)))
noncomputable def Zak:FS:=
 seqF (ifS (Zz (binF neX (binF ixD (Zd 0) (Za (.int 0))) (Za (.str "{")))) (retF (tupF (Zt (Za (.str "signs")) (Zt (Zd 0) (Z6))))) (Zba)) (seqF (setF 1 (bmF "str" Zh3 (slF slD (Zd 0) (Zfy (Za (.int 1))) (Zfy (unF negD (Za (.int 1))))) (Zb (Za (.str " ")) Zj))) (seqF (ifS (Zz (binF eqX (Zao lenD (Zb (Zd 1) Zj)) (Za (.int 3)))) (retX (Zfm 1 Zq (Za1 (Ze0 (Zd 1)) (Zbw)))) (Zba)) (seqF (setF 2 (Zao Zf9 (Zb (bmF "str" Zh3 (slF slD (Zd 0) (Zfy (Za (.int 1))) (Zfy (unF negD (Za (.int 1))))) (Zb (Za (.str "|")) Zj)) Zj))) (seqF (ifS (Zz (binF gtD (Zao lenD (Zb (Zd 2) Zj)) (Za (.int 4)))) (Zcc "NoStyle") (Zba)) (seqF (forF (anyI (Zd 2)) (Zap 3) Zaq) (retF (tupF (Zt (Za (.str "field")) (Zt (Zd 2) (Z6))))))))))
noncomputable def Zm:List D→Option XO:=outX Zak 4
noncomputable def Zq8:List D→Option SV:=valG Zm
noncomputable def Ze:FS:=
 ifS (Zz (binF eqX (Zd 3) (Za (.str "[")))) (Zek 2 Z8) (ifS (Zz (binF eqX (Zd 3) (Za (.str "]")))) (Zek 2 Z7) (Zbj 2 (Zfm 1 Zm (Za1 (Ze0 (Zd 3)) (Zbw)))))
noncomputable def Zw:FS:=
 seqF (ifS (notF (Zz (unF (isiD "str") (Zd 0)))) (Zcc "NoStyle") (Zba)) (seqF (setX 1 (Zfm 1 Zas (Za1 (Ze0 (Zd 0)) (Zbw)))) (seqF (ifS (Zz (binF gtD (binF subD (Zao lenD (Zb (Zd 1) Zj)) (bmF "list" Za8 (Zd 1) (Zb (Za (.str "]")) Zj))) (Za (.int 30)))) (Zcc "NoStyle") (Zba)) (seqF (setF 2 (Zte)) (seqF (forF (anyI (Zd 1)) (Zap 3) Ze) (seqF (ifS (Zz (binF gtD (Zia 2) (Za (.int 1)))) (Zcc "NoStyle") (Zba)) (retF (Zdn 2)))))))
noncomputable def Zf:List D→Option XO:=outX Zw 4
noncomputable def Zag:List D→Option SV:=valG Zf
noncomputable def Zde:FS:=
 seqF (setF 1 (andV (unF (isxD ["NoStyle"] []) (Zd 2)) (unF (isxD ["NoStyle"] []) (Zd 2)))) (setF 1 (andV (Zd 1) (notV (unF (isxD [] ["NoStyle"]) (Zd 2)))))
noncomputable def Zct:FS:=
 seqF (setF 1 (Za (.bl false))) (seqF (tryF (Zm5 (Zfm 1 Zf (Za1 (Ze0 (Zd 0)) (Zbw)))) [⟨some 2,["NoStyle"],[],Zde⟩]) (retF (Zd 1)))
noncomputable def Zau:List D→Option SV:=Zds Zct 3
noncomputable def Za9(r_show_template:List D→Option SV):FS:=
 seqF (ifS (Zz (binF eqX (binF ixD (Zd 0) (Za (.int 0))) (Za (.str "signs")))) (retF (binF ixD (Zd 0) (Za (.int 1)))) (Zba)) (seqF (ifS (Zz (binF eqX (binF ixD (Zd 0) (Za (.int 0))) (Za (.str "field")))) (retF (binF addD (binF addD (Za (.str "{")) (bmF "str" Zh5 (Za (.str "|")) (Zb (binF ixD (Zd 0) (Za (.int 1))) Zj))) (Za (.str "}")))) (Zba)) (seqF (ifS (Zz (binF eqX (binF ixD (Zd 0) (Za (.int 0))) (Za (.str "hands")))) (retF (binF addD (binF addD (binF addD (binF addD (binF addD (binF addD (Za (.str "{")) (binF ixD (Zd 0) (Za (.int 1)))) (Za (.str " "))) (Zao strD (Zb (binF ixD (Zd 0) (Za (.int 2))) Zj))) (Za (.str " "))) (Zao strD (Zb (binF ixD (Zd 0) (Za (.int 3))) Zj))) (Za (.str "}")))) (Zba)) (retF (binF addD (binF addD (Za (.str "[")) (Zck 1 r_show_template (Zb (binF ixD (Zd 0) (Za (.int 1))) (Zj)))) (Za (.str "]"))))))
noncomputable def Z4(r_show_template:List D→Option SV):List D→Option SV:=Zds (Za9 r_show_template) 1
noncomputable def Zah(r_show_template:List D→Option SV):FE:=
 Zck 1 (Z4 r_show_template) (Zb (Zd 0) (Zj))
noncomputable def Zbe(r_show_template:List D→Option SV):FS:=
 retF (bmF "str" Zh5 (Za (.str "")) (Zb (Zpc [.own,.acc] 1 (anyI (Zd 0)) (Zap 0) (Zhv) (Zah r_show_template)) Zj))
noncomputable def Zr:Nat→List D→Option SV
 |0=>fun _=>none
 |n+1=>Zds (Zbe (Zr n)) 1
noncomputable def Zaa:List D→Option SV:=Zr 12
noncomputable def Zif:List D→Option SV:=Z4 Zaa
noncomputable def Zcu:FS:=
 seqF (ifS (Zz (binF ltD (Zd 1) (Zao lenD (Zb (Zd 0) Zj)))) (retF (binF ixD (Zd 0) (Zd 1))) (Zba)) (retF (Za (.int 0)))
noncomputable def Zbf:List D→Option SV:=Zds Zcu 2
noncomputable def Z1:FS:=
 seqF (setF 2 (binF modD (binF Zi0 (Zd 1) (Za (.int 8))) (binF addD (Zao lenD (Zb (Zd 0) Zj)) (Za (.int 1))))) (seqF (setF 3 (slF slD (Zd 0) (Zjw) (Zfy (Zd 2)))) (seqF (setF 4 (slF slD (Zd 0) (Zfy (Zd 2)) (Zjw))) (seqF (setF 5 (binF Zi0 (Zd 1) (Za (.int 8)))) (seqF (ifS (Zz (binF eqX (binF modD (Zd 1) (Za (.int 8))) (Za (.int 0)))) (retF (binF addD (binF addD (Zd 3) (binF ixD (Za (.str "<>^@#~_\"$\\\n\t")) (binF modD (Zd 5) (Za (.int 12))))) (Zd 4))) (Zba)) (seqF (ifS (Zz (binF eqX (binF modD (Zd 1) (Za (.int 8))) (Za (.int 1)))) (retF (binF addD (binF addD (Zd 3) (Za (.str "[]"))) (Zd 4))) (Zba)) (seqF (ifS (Zz (binF eqX (binF modD (Zd 1) (Za (.int 8))) (Za (.int 2)))) (retF (binF addD (Zd 0) (binF ixD (lstF (Zc7 ["]","[","{","}","[a","{a","a]","a}","[[a]","[{a]}","{[a]}"] (Z6))) (binF modD (Zd 5) (Za (.int 11)))))) (Zba)) (seqF (ifS (Zz (binF eqX (binF modD (Zd 1) (Za (.int 8))) (Za (.int 3)))) (seqF (setF 6 (lstF (Zt (binF addD (binF addD (binF mulZ (Za (.str "[")) (Za (.int 3000))) (Za (.str "a"))) (binF mulZ (Za (.str "]")) (Za (.int 3000)))) (Zt (binF mulZ (Za (.str "[")) (Za (.int 9000))) (Z6))))) (retF (binF addD (Zd 0) (binF ixD (binF addD (lstF (Zc7 ["[[[[a]]]]","[[[[{a}]x]]]","a[b[c[d[e]]]]"] (Z6))) (Zd 6)) (binF modD (Zd 5) (Za (.int 5))))))) (Zba)) (seqF (ifS (Zz (binF eqX (binF modD (Zd 1) (Za (.int 8))) (Za (.int 4)))) (seqF (setF 7 (lstF (Zc7 ["{}","{A}","{note}","{a|}","{|a}","{a|b|c|d|e}","{abcdefghi}","{ a}","{a }"] (Z6)))) (retF (binF addD (Zd 0) (binF ixD (binF addD (Zd 7) (lstF (Zc7 ["{a1}","{a|note}"] (Z6)))) (binF modD (Zd 5) (Za (.int 11))))))) (Zba)) (seqF (ifS (Zz (binF eqX (binF modD (Zd 1) (Za (.int 8))) (Za (.int 5)))) (seqF (setF 7 (lstF (Zc7 ["{a 0 1}","{a 10 1}","{a 1 3}","{a 1}","{a  1 1}","{a|b 1 1}","{note 1 1}"] (Z6)))) (seqF (setF 7 (binF addD (Zd 7) (lstF (Zc7 ["{a 1 1 1}","{a 1 01}"] (Z6))))) (retF (binF addD (Zd 0) (binF ixD (binF addD (Zd 7) (lstF (Zc7 ["{a x 1}","{a 1 -}","{ 1 1}","{a 1 }"] (Z6)))) (binF modD (Zd 5) (Za (.int 13)))))))) (Zba)) (seqF (ifS (Zz (binF eqX (binF modD (Zd 1) (Za (.int 8))) (Za (.int 6)))) (retF (binF mulZ (Za (.str "{a}")) (binF addD (Za (.int 31)) (binF modD (Zd 5) (Za (.int 5)))))) (Zba)) (retF (binF addD (binF mulZ (Za (.str "[{a}b]")) (Za (.int 10))) (binF mulZ (Za (.str "{a}")) (binF addD (Za (.int 1)) (binF modD (Zd 5) (Za (.int 4)))))))))))))))))
noncomputable def Zl:List D→Option SV:=Zds Z1 8
noncomputable def Zgv:FS:=
 seqF (setF 2 (Zck 1 Zcd (Zb (binF ixD (Zd 0) (Zd 1)) (Zj)))) (seqF (ifS (notF (Zz (Zck 1 Zau (Zb (Zck 2 Zl (Zb (Zd 2) (Zb (binF addD (binF Zi0 (binF ixD (Zd 0) (Zd 1)) (Za (.int 512))) (Zd 1)) (Zj)))) (Zj))))) (retF (Za (.bl false))) (Zba)) (ifS (Zz (binF neX (Zck 1 Zaa (Zb (Zck 1 Zag (Zb (Zd 2) (Zj))) (Zj))) (Zd 2))) (retF (Za (.bl false))) (Zba)))
noncomputable def Ztn:FS:=
 seqF (forF (rngI (Zb (Zao minD (Zb (Zao lenD (Zb (Zd 0) Zj)) (Zb (Za (.int 40)) Zj))) Zj)) (Zap 1) Zgv) (seqF (setF 3 (binF ixD (lstF (Zt (Za .non) (Zt (Za (.int 5)) (Zt (tupF (Zc7 ["signs","a"] (Z6))) (Zt (lstF (Zt (Za (.str "a")) (Z6))) (Z6)))))) (binF modD (Zck 2 Zbf (Zb (Zd 0) (Zb (Za (.int 0)) (Zj)))) (Za (.int 4))))) (retF (andV (Zck 1 Zau (Zb (Zd 3) (Zj))) (binF eqX (Zck 1 Zag (Zb (binF mulZ (Za (.str "{a}")) (Za (.int 30))) (Zj))) (binF Zlf (tupF (Zt (tupF (Zt (Za (.str "field")) (Zt (tupF (Zt (Za (.str "a")) (Z6))) (Z6)))) (Z6))) (Za (.int 30)))))))
noncomputable def Zgw:List D→Option SV:=Zds Ztn 4
end Gen
namespace Gen
open PySem PySem.Spec PyProof.Rows L2 DL
structure Txt (K : PySem.W.Frag) (mg : Str → Option Value) (tx0 : Tok) (tx1 : Tok) (tx2 : Tok) (tx3 : Tok) (tx4 : Tok) (tx5 : Tok) (tx6 : Tok) (tx7 : Tok) (fx0 fx1 fx2 fx3 fx4 fx5 fx6 fx7 fx8 fx9 fx10 fx11 fx12 fx13 fx14 fx15 fx16 fx17 fx18 aCiteError aNoHands aNoList aNoName aNoPlain aNoRow aNoStyle aNoText aNoWork : Addr) : Prop where
  x_CiteError : mg "CiteError" = some (.ref aCiteError)
  x_NoHands : mg "NoHands" = some (.ref aNoHands)
  x_NoList : mg "NoList" = some (.ref aNoList)
  x_NoName : mg "NoName" = some (.ref aNoName)
  x_NoPlain : mg "NoPlain" = some (.ref aNoPlain)
  x_NoRow : mg "NoRow" = some (.ref aNoRow)
  x_NoStyle : mg "NoStyle" = some (.ref aNoStyle)
  x_NoText : mg "NoText" = some (.ref aNoText)
  x_NoWork : mg "NoWork" = some (.ref aNoWork)
  n_NoStyle : Zci K "NoStyle" aNoStyle
  ek_NoStyle : ExcKit K aNoStyle
  ty_NoStyle : PySem.W.typeIn K (.ref aNoStyle) = some (.type "type")
  ic_NoStyle : PySem.W.isClsIn K aNoStyle = true
  be_NoStyle : PySem.W.mroIn K aNoStyle (.type "BaseException") = some true
  h_NoStyle_NoStyle : PySem.W.mroIn K aNoStyle (.ref aNoStyle) = some true
  q0_NoStyle : PySem.W.kitOne K (.ref aNoStyle) (.ref aCiteError) = some true
  q1_NoStyle : PySem.W.kitOne K (.ref aNoStyle) (.type "ValueError") = some true
  q2_NoStyle : PySem.W.kitAny K (.ref aNoStyle) [Value.ref aNoHands, Value.ref aNoList, Value.ref aNoName, Value.ref aNoPlain, Value.ref aNoRow, Value.ref aNoText, Value.ref aNoWork] = some false
  z_ValueError : mg "ValueError" = none
  z_all : mg "all" = none
  z_int : mg "int" = none
  z_isinstance : mg "isinstance" = none
  z_len : mg "len" = none
  z_min : mg "min" = none
  z_range : mg "range" = none
  z_str : mg "str" = none
  z_tuple : mg "tuple" = none
  c_MANY_FIGURES : mg "MANY_FIGURES" = some (.str "123456789" tx0)
  c_MOST_DEEP : mg "MOST_DEEP" = some (.int 3 tx1)
  c_MOST_NAMES : mg "MOST_NAMES" = some (.int 4 tx2)
  c_MOST_PIECES : mg "MOST_PIECES" = some (.int 30 tx3)
  c_NAME_LENGTH : mg "NAME_LENGTH" = some (.int 8 tx4)
  c_SMALL_LETTERS : mg "SMALL_LETTERS" = some (.str "abcdefghijklmnopqrstuvwxyz" tx5)
  c_STYLE_SIGNS : mg "STYLE_SIGNS" = some (.str "ABCDEFGHIJKLMNOPQRSTUVWXYZabcdefghijklmnopqrstuvwxyz0123456789 .,!?'-/()&+*=:;" tx6)
  c_WAY_FIGURES : mg "WAY_FIGURES" = some (.str "012" tx7)
  m_0 : mg "_law_text" = some (.ref fx0)
  k_0 : PySem.W.keepIn K (.ref fx0) = true
  m_1 : mg "signs_end" = some (.ref fx1)
  k_1 : PySem.W.keepIn K (.ref fx1) = true
  m_2 : mg "cut_end" = some (.ref fx2)
  k_2 : PySem.W.keepIn K (.ref fx2) = true
  m_3 : mg "cuts_of" = some (.ref fx3)
  k_3 : PySem.W.keepIn K (.ref fx3) = true
  m_4 : mg "begin_group" = some (.ref fx4)
  k_4 : PySem.W.keepIn K (.ref fx4) = true
  m_5 : mg "end_group" = some (.ref fx5)
  k_5 : PySem.W.keepIn K (.ref fx5) = true
  m_6 : mg "is_all_of" = some (.ref fx6)
  k_6 : PySem.W.keepIn K (.ref fx6) = true
  m_7 : mg "is_text_of" = some (.ref fx7)
  k_7 : PySem.W.keepIn K (.ref fx7) = true
  m_8 : mg "is_name" = some (.ref fx8)
  k_8 : PySem.W.keepIn K (.ref fx8) = true
  m_9 : mg "check_name" = some (.ref fx9)
  k_9 : PySem.W.keepIn K (.ref fx9) = true
  m_10 : mg "read_hands_piece" = some (.ref fx10)
  k_10 : PySem.W.keepIn K (.ref fx10) = true
  m_11 : mg "read_piece" = some (.ref fx11)
  k_11 : PySem.W.keepIn K (.ref fx11) = true
  m_12 : mg "read_template" = some (.ref fx12)
  k_12 : PySem.W.keepIn K (.ref fx12) = true
  m_13 : mg "_law_refused" = some (.ref fx13)
  k_13 : PySem.W.keepIn K (.ref fx13) = true
  m_14 : mg "show_piece" = some (.ref fx14)
  k_14 : PySem.W.keepIn K (.ref fx14) = true
  m_15 : mg "show_template" = some (.ref fx15)
  k_15 : PySem.W.keepIn K (.ref fx15) = true
  m_16 : mg "_law_cell_at" = some (.ref fx16)
  k_16 : PySem.W.keepIn K (.ref fx16) = true
  m_17 : mg "_law_spoiled" = some (.ref fx17)
  k_17 : PySem.W.keepIn K (.ref fx17) = true
  m_18 : mg "law" = some (.ref fx18)
  k_18 : PySem.W.keepIn K (.ref fx18) = true
section
variable{P:Program}{w:World}{K:PySem.W.Frag}{mg:Str→Option Value}{base:Heap}{tx0:Tok}{tx1:Tok}{tx2:Tok}{tx3:Tok}{tx4:Tok}{tx5:Tok}{tx6:Tok}{tx7:Tok}{fx0 fx1 fx2 fx3 fx4 fx5 fx6 fx7 fx8 fx9 fx10 fx11 fx12 fx13 fx14 fx15 fx16 fx17 fx18 aCiteError aNoHands aNoList aNoName aNoPlain aNoRow aNoStyle aNoText aNoWork:Addr}
theorem Zft:FnScope ["_law_cell","_law_some"] ["_law_cell"] (Zi Zdw):=⟨rfl,rfl,rfl,by decide+kernel,rfl,by decide+kernel,by decide+kernel⟩
theorem Zdf:FnScope ["text","place","end"] ["text","place"] (Zi Zc8):=⟨rfl,rfl,rfl,by decide+kernel,rfl,by decide+kernel,by decide+kernel⟩
theorem Zer:FnScope ["text","place","end"] ["text","place"] (Zi Zen):=⟨rfl,rfl,rfl,by decide+kernel,rfl,by decide+kernel,by decide+kernel⟩
theorem Zce:FnScope ["text","cuts","place","end"] ["text"] (Zi Zeo):=⟨rfl,rfl,rfl,by decide+kernel,rfl,by decide+kernel,by decide+kernel⟩
theorem Zf0:FnScope ["levels"] ["levels"] (Zi Zb6):=⟨rfl,rfl,rfl,by decide+kernel,rfl,by decide+kernel,by decide+kernel⟩
theorem Zey:FnScope ["levels","pieces"] ["levels"] (Zi Zc9):=⟨rfl,rfl,rfl,by decide+kernel,rfl,by decide+kernel,by decide+kernel⟩
theorem Zig:FnScope ["text","signs"] ["text","signs"] (Zi Zda):=⟨rfl,rfl,rfl,by decide+kernel,rfl,by decide+kernel,by decide+kernel⟩
theorem Zgx:FnScope ["value","signs","most"] ["value","signs","most"] (Zi Zco):=⟨rfl,rfl,rfl,by decide+kernel,rfl,by decide+kernel,by decide+kernel⟩
theorem Zlg:FnScope ["value"] ["value"] (Zi Zep):=⟨rfl,rfl,rfl,by decide+kernel,rfl,by decide+kernel,by decide+kernel⟩
theorem Zgy:FnScope ["name"] ["name"] (Zi Zcp):=⟨rfl,rfl,rfl,by decide+kernel,rfl,by decide+kernel,by decide+kernel⟩
theorem Zdz:FnScope ["words"] ["words"] (Zi Za6):=⟨rfl,rfl,rfl,by decide+kernel,rfl,by decide+kernel,by decide+kernel⟩
theorem Zbr:FnScope ["cut","words","names","name"] ["cut"] (Zi Zcq):=⟨rfl,rfl,rfl,by decide+kernel,rfl,by decide+kernel,by decide+kernel⟩
theorem Za4:FnScope ["text","cuts","levels","cut"] ["text"] (Zi Zbn):=⟨rfl,rfl,rfl,by decide+kernel,rfl,by decide+kernel,by decide+kernel⟩
theorem Zaz:FnScope ["_law_thing","_law_met","e"] ["_law_thing"] (Zi Zb7):=⟨rfl,rfl,rfl,by decide+kernel,rfl,by decide+kernel,by decide+kernel⟩
theorem Zgz:FnScope ["piece"] ["piece"] (Zi Zbp):=⟨rfl,rfl,rfl,by decide+kernel,rfl,by decide+kernel,by decide+kernel⟩
theorem Ze1:FnScope ["T"] ["T"] (Zi Za3):=⟨rfl,rfl,rfl,by decide+kernel,rfl,by decide+kernel,by decide+kernel⟩
theorem Zf1:FnScope ["_law_script","_law_k"] ["_law_script","_law_k"] (Zi Zb8):=⟨rfl,rfl,rfl,by decide+kernel,rfl,by decide+kernel,by decide+kernel⟩
theorem Z2:FnScope ["_law_text_here","_law_cell","_law_at","_law_ahead","_law_behind","_law_rest","_law_deep","_law_some"] ["_law_text_here","_law_cell"] (Zi Zb9):=⟨rfl,rfl,rfl,by decide+kernel,rfl,by decide+kernel,by decide+kernel⟩
theorem Zke:FnScope ["_law_script","_law_k","_law_text_here","_law_thing"] ["_law_script"] (Zi Zd9):=⟨rfl,rfl,rfl,by decide+kernel,rfl,by decide+kernel,by decide+kernel⟩
theorem okB{x qual:Str}{st:Stmt}{f:Addr}{fd:FuncData}{N ps:List Str}{k n:Nat}(F:Fun K x qual st f fd)(S:FnScope N ps (Zi st))(hn:n=ps.length)(f0:FS)(hb:∀(cdv:Value) (A:Around) (outer:List Env) (s:Shared) (H F0:Hp) (E:XK),Room k (A.deeper (envOfC qual (Zi st) s.heap.objs.size f cdv))→(A.deeper (envOfC qual (Zi st) s.heap.objs.size f cdv)).units+1<cLine→(A.deeper (envOfC qual (Zi st) s.heap.objs.size f cdv)).units+64<cLine→PSs (cxOf CX0 P w K mg base N qual (Zi st) f cdv A outer s H E).nox (Zbs st) (Zv (ent H F0:Ent K) f0)):FnOk P w K mg base CX0 (k+1) f fd ps (spOf K n (Zds f0 N.length)):=
 F.ok S (fun _ _ _ _ h=>(Zpb h).trans hn) fun cdv A outer s H vs Q E hr h=>by
  obtain⟨F0,h⟩:=Zpl (N:=N) (f:=f0) h
  exact⟨_,hb cdv A outer s H F0 E hr (Zsa hr) hr.units,h⟩
theorem okBX{x qual:Str}{st:Stmt}{f:Addr}{fd:FuncData}{N ps:List Str}{k n:Nat}(F:Fun K x qual st f fd)(S:FnScope N ps (Zi st))(hn:n=ps.length)(f0:FS)(hb:∀(cdv:Value) (A:Around) (outer:List Env) (s:Shared) (H F0:Hp) (E:XK),Room k (A.deeper (envOfC qual (Zi st) s.heap.objs.size f cdv))→(A.deeper (envOfC qual (Zi st) s.heap.objs.size f cdv)).units+1<cLine→(A.deeper (envOfC qual (Zi st) s.heap.objs.size f cdv)).units+64<cLine→PSs (cxOf (CX1 P w) P w K mg base N qual (Zi st) f cdv A outer s H E) (Zbs st) (Zv (entX H F0 E:Ent K) f0)):FnOk P w K mg base (CX1 P w) (k+1) f fd ps (spX K n (outX f0 N.length)):=
 Fun.okX F S (fun _ _ _ _ h=>(Zs2 h).trans hn) fun cdv A outer s H vs Q E hr h=>by
  obtain⟨F0,h⟩:=Zm4 (N:=N) (f:=f0) h
  exact⟨_,hb cdv A outer s H F0 E hr (Zsa hr) hr.units,h⟩
theorem Zxe{x qual:Str}{st:Stmt}{f:Addr}{fd:FuncData}{N ps:List Str}{k:Nat}(F:Fun K x qual st f fd)(S:FnScope N ps (Zi st))(hn:1=ps.length)(f0:FS)(hb:∀(cdv:Value) (A:Around) (outer:List Env) (s:Shared) (H G0 F0:Hp) (E:XK),Room k (A.deeper (envOfC qual (Zi st) s.heap.objs.size f cdv))→(A.deeper (envOfC qual (Zi st) s.heap.objs.size f cdv)).units+1<cLine→(A.deeper (envOfC qual (Zi st) s.heap.objs.size f cdv)).units+64<cLine→PSs (cxOf (CX1 P w) P w K mg base N qual (Zi st) f cdv A outer s H E) (Zbs st) (Zv (entX G0 F0 E:Ent K) f0))(hN:0<N.length:=by decide):FnOk P w K mg base (CX1 P w) (k+1) f fd ps (spMX K (Znm f0 N.length)):=
 Fun.okX F S (fun _ _ _ _ h=>(Zp0 h).trans hn) fun cdv A outer s H vs Q E hr h=>by
  obtain⟨G0,F0,h⟩:=Zlc (N:=N) (f:=f0) hN h
  exact⟨_,hb cdv A outer s H G0 F0 E hr (Zsa hr) hr.units,h⟩
variable(T:Txt K mg tx0 tx1 tx2 tx3 tx4 tx5 tx6 tx7 fx0 fx1 fx2 fx3 fx4 fx5 fx6 fx7 fx8 fx9 fx10 fx11 fx12 fx13 fx14 fx15 fx16 fx17 fx18 aCiteError aNoHands aNoList aNoName aNoPlain aNoRow aNoStyle aNoText aNoWork)
include T
theorem Zjc{fd:FuncData}(F:Fun K "_law_text" "_law_text" Zdw fx0 fd):
  FnOk P w K mg base CX0 1 fx0 fd ["_law_cell"] (spOf K 1 Zcd):=by
 refine okB F Zft rfl Zeq fun _ _ _ _ _ _ _ hr hu hv=>?_
 exact(@Zk _ _ _ _ _ _ (@Zbv _ _ _ _ _ 1 _ _ Zft.nd (@Zez _ _ _ _ _ (@Zcm _ _ _ _ [("",_,_),("a: ",_,_),("{title}",_,_),("[{book|part}, ]",_,_),("{hands 2 1} (x)",_,_),("[p. [{pages}; [{a}]]]",_,_),("{a|b|c|d}",_,_),("{x 9 0}",_,_)] Zcb)) (by rfl) (by trivial) (by rfl) (by trivial)) (@Zn _ _ _ _ (@Zay _ _ _ _ _ (@Zaw _ _ _ _ _ _ _ (@Zaw _ _ _ _ _ _ _ (@e_ix _ _ _ _ _ _ _ hu (Zg 1) (@Zcl _ _ _ _ _ _ _ (Zg 0) Zs) (by intro _ _;rfl)) (@e_ix _ _ _ _ _ _ _ hu (Zg 1) (@Zcl _ _ _ _ _ _ _ (@Zhx _ _ _ _ _ _ _ (Zg 0) Zs) Zs) (by intro _ _;rfl))) (@e_ix _ _ _ _ _ _ _ hu (Zg 1) (@Zcl _ _ _ _ _ _ _ (@Zhx _ _ _ _ _ _ _ (Zg 0) Zs) Zs) (by intro _ _;rfl))))))
theorem Zih{fd:FuncData}(F:Fun K "signs_end" "signs_end" Zc8 fx1 fd):
  FnOk P w K mg base CX0 1 fx1 fd ["text","place"] (spOf K 2 Za7):=by
 refine okB F Zdf rfl Zdx fun _ _ _ _ _ _ _ hr hu hv=>?_
 exact(@Zk _ _ _ _ _ _ (@Zbv _ _ _ _ _ 2 _ _ Zdf.nd (Zg 1) (by rfl) (by trivial) (by rfl) (by trivial)) (@Zk _ _ _ _ _ _ (@Zmu _ _ _ _ FUEL _ _ _ PassesOwn.never (@PW.pt _ _ _ (@Zz8 _ _ _ _ _ _ _ _ (@t_lt _ _ _ _ _ _ _ (Zg 2) (@Zfz _ _ _ _ _ _ T.z_len (Zg 0) (by rfl) (by rfl) (by rfl))) (@Zv2 _ _ _ _ _ (@Zwu _ _ _ _ _ _ _ hu (@e_ix _ _ _ _ _ _ _ hu (Zg 0) (Zg 2) (by intro _ _;rfl)) (@Zgm _ _ _ _ _ _ T.c_STYLE_SIGNS (by rfl) (by decide)) (by rfl))))) (@Zn _ _ _ _ (@Z1e _ _ _ 2 _ _ _ _ _ Zdf.nd (by rfl) (by trivial) (by trivial)))) (@Zn _ _ _ _ (@Zay _ _ _ _ _ (Zg 2)))))
theorem Zlh{fd:FuncData}(F:Fun K "cut_end" "cut_end" Zen fx2 fd)(O_NoStyle:OwnCls "NoStyle" aNoStyle VEB "ValueError.__new__" mg base){dx1:FuncData}(Vx1:FnOk P w K mg base CX0 1 fx1 dx1 ["text","place"] (spOf K 2 Za7))(Wx1:Zat K dx1 ["text","place"] []):
  FnOk P w K mg base (CX1 P w) 2 fx2 fd ["text","place"] (spX K 2 Zbl):=by
 refine okBX F Zer rfl Zea fun _ _ _ _ _ _ _ hr hu hv=>?_
 exact(@Zk _ _ _ _ _ _ (@s_if _ _ _ _ _ _ _ _ _ (@Zwu _ _ _ _ _ _ _ hu (@e_ix _ _ _ _ _ _ _ hu (Zg 0) (Zg 1) (by intro _ _;rfl)) Zai (by rfl)) (@Zn _ _ _ _ (@Zay _ _ _ _ _ (@Zaw _ _ _ _ _ _ _ (Zg 1) Zs))) Zaf) (@Zk _ _ _ _ _ _ (@s_if _ _ _ _ _ _ _ _ _ (@Zc3 _ _ _ _ _ _ _ hv (@e_ix _ _ _ _ _ _ _ hu (Zg 0) (Zg 1) (by intro _ _;rfl)) Zai) (@Zn _ _ _ _ (@Zbv _ _ _ _ _ 2 _ _ Zer.nd (@Zaw _ _ _ _ _ _ _ (@Ztj _ _ _ _ _ _ _ _ _ _ (Zg 0) Zai (Zg 1) (by rfl) (by rfl) (by rfl) (by rfl) (by rfl) (by rfl)) Zs) (by rfl) (by trivial) (by rfl) (by trivial))) (@Zn _ _ _ _ (@Zbv _ _ _ _ _ 2 _ _ Zer.nd (@Zb2 _ _ _ _ _ _ _ _ _ _ _ _ _ _ Vx1 (hr.mono (by decide)) T.m_1 T.k_1 Wx1 (@Zx _ _ _ _ _ _ (Zg 0) (@Zx _ _ _ _ _ _ (Zg 1) Zbh (by rfl)) (by rfl)) (by rfl) (by decide) (by rfl) (by rfl)) (by rfl) (by trivial) (by rfl) (by trivial)))) (@Zk _ _ _ _ _ _ (@s_if _ _ _ _ _ _ _ _ _ (@t_le _ _ _ _ _ _ _ (Zg 2) (Zg 1)) (@Zn _ _ _ _ (@Zbx _ _ _ _ _ _ _ _ _ _ Zan rfl O_NoStyle T.n_NoStyle (by exact fun _ _ _ _ h=>h) (by rfl) (by rfl) (by rfl) (by rfl) (by exact⟨_,_,rfl⟩) (by decide))) Zaf) (@Zn _ _ _ _ (@Zay _ _ _ _ _ (Zg 2))))))
theorem Zli{fd:FuncData}(F:Fun K "cuts_of" "cuts_of" Zeo fx3 fd){dx2:FuncData}(Vx2:FnOk P w K mg base (CX1 P w) 2 fx2 dx2 ["text","place"] (spX K 2 Zbl))(Wx2:Zat K dx2 ["text","place"] []):
  FnOk P w K mg base (CX1 P w) 3 fx3 fd ["text"] (spX K 1 Zas):=by
 refine okBX F Zce rfl Zdb fun _ _ _ _ _ _ _ hr hu hv=>?_
 exact(@Zk _ _ _ _ _ _ (@Zbv _ _ _ _ _ 1 _ _ Zce.nd (@Zez _ _ _ _ _ Zcb) (by rfl) (by trivial) (by rfl) (by trivial)) (@Zk _ _ _ _ _ _ (@Zbv _ _ _ _ _ 2 _ _ Zce.nd Zs (by rfl) (by trivial) (by rfl) (by trivial)) (@Zk _ _ _ _ _ _ (@Zmu _ _ _ _ FUEL _ _ _ PassesOwn.leaving (@t_lt _ _ _ _ _ _ _ (Zg 2) (@Zfz _ _ _ _ _ _ T.z_len (Zg 0) (by rfl) (by rfl) (by rfl))) (@Zk _ _ _ _ _ _ (@Zqz _ _ _ _ _ 3 _ _ Zce.nd (@Zfo _ _ _ _ _ _ _ _ _ _ _ _ _ _ Vx2 (hr.mono (by decide)) T.m_2 T.k_2 Wx2 Zb3 (@Zc5 _ _ _ _ _ _ (@Zex _ _ _ _ (Zg 0)) (@Zc5 _ _ _ _ _ _ (@Zex _ _ _ _ (Zg 2)) Zfn (by rfl)) (by rfl)) (by rfl) (by decide) (by rfl) (by rfl)) (by rfl) (by trivial) (by rfl) (by trivial)) (@Zk _ _ _ _ _ _ (@Z0b _ _ _ _ _ 1 _ _ _ _ (@e_sl _ _ _ _ _ _ _ _ _ _ (Zg 0) (@Zev _ _ _ _ (Zg 2)) (@Zev _ _ _ _ (Zg 3))) (by rfl) (by trivial) (by decide) (by decide) (by rfl) (by rfl) (by rfl) (by rfl) (by rfl) (by rfl)) (@Zn _ _ _ _ (@Zbv _ _ _ _ _ 2 _ _ Zce.nd (Zg 3) (by rfl) (by trivial) (by rfl) (by trivial)))))) (@Zn _ _ _ _ (@Zay _ _ _ _ _ (Zg 1))))))
theorem Zf2{fd:FuncData}(F:Fun K "begin_group" "begin_group" Zb6 fx4 fd)(O_NoStyle:OwnCls "NoStyle" aNoStyle VEB "ValueError.__new__" mg base):
  FnOk P w K mg base (CX1 P w) 1 fx4 fd ["levels"] (spMX K Z8):=by
 refine Zxe F Zf0 rfl Zbq fun _ _ _ _ _ _ _ _ hr hu hv=>?_
 exact(@Zk _ _ _ _ _ _ (@s_if _ _ _ _ _ _ _ _ _ (@t_gt _ _ _ _ _ _ _ (@Zni _ _ _ _ 0 _ T.z_len (@Zh8 _ 0 _ _ (by rfl) (by trivial) (by decide) (by decide)) (by rfl) (by rfl) (by rfl)) (@Zgn _ _ _ _ _ _ T.c_MOST_DEEP (by rfl) (by decide))) (@Zn _ _ _ _ (@Zbx _ _ _ _ _ _ _ _ _ _ Zan rfl O_NoStyle T.n_NoStyle (by exact fun _ _ _ _ h=>h) (by rfl) (by rfl) (by rfl) (by rfl) (by exact⟨_,_,rfl⟩) (by decide))) Zaf) (@Zn _ _ _ _ (@Zw3 _ _ _ 0 _ _ _ _ _ (by rfl) (by trivial) (by decide) (by decide) (by rfl) (by rfl) (by rfl) (by rfl) (by rfl) (by rfl))))
theorem Zii{fd:FuncData}(F:Fun K "end_group" "end_group" Zc9 fx5 fd)(O_NoStyle:OwnCls "NoStyle" aNoStyle VEB "ValueError.__new__" mg base):
  FnOk P w K mg base (CX1 P w) 1 fx5 fd ["levels"] (spMX K Z7):=by
 refine Zxe F Zey rfl Zby fun _ _ _ _ _ _ _ _ hr hu hv=>?_
 exact(@Zk _ _ _ _ _ _ (@s_if _ _ _ _ _ _ _ _ _ (@Zc3 _ _ _ _ _ _ _ hv (@Zni _ _ _ _ 0 _ T.z_len (@Zh8 _ 0 _ _ (by rfl) (by trivial) (by decide) (by decide)) (by rfl) (by rfl) (by rfl)) Zs) (@Zn _ _ _ _ (@Zbx _ _ _ _ _ _ _ _ _ _ Zan rfl O_NoStyle T.n_NoStyle (by exact fun _ _ _ _ h=>h) (by rfl) (by rfl) (by rfl) (by rfl) (by exact⟨_,_,rfl⟩) (by decide))) Zaf) (@Zk _ _ _ _ _ _ (@Zw4 _ _ _ 1 0 _ _ _ _ _ _ Zey.nd (by rfl) (by trivial) (by decide) (by decide) (by rfl) (by rfl) (by rfl) (by trivial) (by rfl) (by trivial)) (@Zk _ _ _ _ _ _ (@s_if _ _ _ _ _ _ _ _ _ (@Zc3 _ _ _ _ _ _ _ hv (@Zfz _ _ _ _ _ _ T.z_len (Zg 1) (by rfl) (by rfl) (by rfl)) Zs) (@Zn _ _ _ _ (@Zbx _ _ _ _ _ _ _ _ _ _ Zan rfl O_NoStyle T.n_NoStyle (by exact fun _ _ _ _ h=>h) (by rfl) (by rfl) (by rfl) (by rfl) (by exact⟨_,_,rfl⟩) (by decide))) Zaf) (@Zn _ _ _ _ (@Znk _ _ _ _ _ _ 0 _ _ (@Zw1 _ _ _ _ _ _ _ (@Zh8 _ 0 _ _ (by rfl) (by trivial) (by decide) (by decide))) (@Zhy _ _ _ _ _ _ (@Zax _ _ _ _ _ _ Zai (@Zax _ _ _ _ _ _ (@Zms _ _ _ _ _ _ T.z_tuple (Zg 1) (by rfl) (by rfl) (by rfl)) Zcb (by rfl)) (by rfl))) (by rfl) (by rfl) (by rfl) (by rfl) (by rfl) (by rfl))))))
theorem Zij{fd:FuncData}(F:Fun K "is_all_of" "is_all_of" Zda fx6 fd):
  FnOk P w K mg base CX0 1 fx6 fd ["text","signs"] (spOf K 2 Zbz):=by
 refine okB F Zig rfl Zdy fun _ _ _ _ _ _ _ hr hu hv=>?_
 exact(@Zn _ _ _ _ (@Zay _ _ _ _ _ (@Z0g _ _ _ _ _ _ T.z_all (@Zqs _ _ _ _ _ _ _ _ _ _ _ _ _ _ _ rfl (Zh0 (N':=["sign","signs",".acc"]) (src:=[.own,.cap 1,.acc]) (by rfl) (by rfl) (by rfl) (by rfl) (by rfl) (by rfl)) (Zv4 2 (by rfl) (by rfl)) (by decide) (@Zpp _ _ _ _ _ (Zg 0)) (fun _ _ _ _=>@xg _ _ _ (fun _=>(@Zhz _ _ _ 0 _ (show(["sign","signs",".acc"]:List Str).Nodup by decide+kernel) (by rfl) (by trivial) (by trivial)))) (fun _ _ _ _=>xt0) (fun _ _ _ _=>@xe _ _ _ (fun _=>(@Z03 _ _ _ _ _ _ _ hu (Zg 0) (Zg 1) (by rfl)))) (by intro _;rfl)) (by rfl) (by rfl) (by rfl) (by rfl))))
theorem Zg0{fd:FuncData}(F:Fun K "is_text_of" "is_text_of" Zco fx7 fd){dx6:FuncData}(Vx6:FnOk P w K mg base CX0 1 fx6 dx6 ["text","signs"] (spOf K 2 Zbz))(Wx6:Zat K dx6 ["text","signs"] []):
  FnOk P w K mg base CX0 2 fx7 fd ["value","signs","most"] (spOf K 3 Zaj):=by
 refine okB F Zgx rfl Zdc fun _ _ _ _ _ _ _ hr hu hv=>?_
 exact(@Zk _ _ _ _ _ _ (@s_if _ _ _ _ _ _ _ _ _ (@Zk8 _ _ _ _ _ (@Zk9 _ _ _ _ (@Zv3 _ _ _ _ _ _ _ _ _ T.z_isinstance T.z_str boot_str (Zmt _) (Zg 0) (by rfl) (by rfl) (by decide) (by decide) (by rfl) (by rfl) (by rfl)) (by intro _;rfl))) (@Zn _ _ _ _ (@Zay _ _ _ _ _ e_bl)) Zaf) (@Zn _ _ _ _ (@Zay _ _ _ _ _ (@Zpk _ _ _ _ _ _ _ _ (@Zsq _ _ _ _ _ _ _ _ _ _ _ _ _ _ _ Zry p_le Zry p_le Zs (@Zfz _ _ _ _ _ _ T.z_len (Zg 0) (by rfl) (by rfl) (by rfl)) (Zg 2) (by with_unfolding_all rfl)) (@Zpj _ _ _ _ _ _ (@Zb2 _ _ _ _ _ _ _ _ _ _ _ _ _ _ Vx6 (hr.mono (by decide)) T.m_6 T.k_6 Wx6 (@Zx _ _ _ _ _ _ (Zg 0) (@Zx _ _ _ _ _ _ (Zg 1) Zbh (by rfl)) (by rfl)) (by rfl) (by decide) (by rfl) (by rfl)))))))
theorem Zlj{fd:FuncData}(F:Fun K "is_name" "is_name" Zep fx8 fd){dx7:FuncData}(Vx7:FnOk P w K mg base CX0 2 fx7 dx7 ["value","signs","most"] (spOf K 3 Zaj))(Wx7:Zat K dx7 ["value","signs","most"] []):
  FnOk P w K mg base CX0 3 fx8 fd ["value"] (spOf K 1 Zdd):=by
 refine okB F Zlg rfl Zfs fun _ _ _ _ _ _ _ hr hu hv=>?_
 exact(@Zn _ _ _ _ (@Zay _ _ _ _ _ (@Zb2 _ _ _ _ _ _ _ _ _ _ _ _ _ _ Vx7 (hr.mono (by decide)) T.m_7 T.k_7 Wx7 (@Zx _ _ _ _ _ _ (Zg 0) (@Zx _ _ _ _ _ _ (@Zgm _ _ _ _ _ _ T.c_SMALL_LETTERS (by rfl) (by decide)) (@Zx _ _ _ _ _ _ (@Zgn _ _ _ _ _ _ T.c_NAME_LENGTH (by rfl) (by decide)) Zbh (by rfl)) (by rfl)) (by rfl)) (by rfl) (by decide) (by rfl) (by rfl))))
theorem Zg1{fd:FuncData}(F:Fun K "check_name" "check_name" Zcp fx9 fd)(O_NoStyle:OwnCls "NoStyle" aNoStyle VEB "ValueError.__new__" mg base){dx8:FuncData}(Vx8:FnOk P w K mg base CX0 3 fx8 dx8 ["value"] (spOf K 1 Zdd))(Wx8:Zat K dx8 ["value"] []):
  FnOk P w K mg base (CX1 P w) 4 fx9 fd ["name"] (spX K 1 Z3):=by
 refine okBX F Zgy rfl Zbm fun _ _ _ _ _ _ _ hr hu hv=>?_
 exact(@Zn _ _ _ _ (@s_if _ _ _ _ _ _ _ _ _ (@PW.pt _ _ _ (@w_or _ _ _ _ _ _ _ _ (@Zk8 _ _ _ _ _ (@Zk9 _ _ _ _ (@Zb2 _ _ _ _ _ _ _ _ _ _ _ _ _ _ Vx8 (hr.mono (by decide)) T.m_8 T.k_8 Wx8 (@Zx _ _ _ _ _ _ (Zg 0) Zbh (by rfl)) (by rfl) (by decide) (by rfl) (by rfl)) (by intro _;rfl))) (@Zz7 _ _ _ _ _ (@Zc3 _ _ _ _ _ _ _ hv (Zg 0) Zai)))) (@Zn _ _ _ _ (@Zbx _ _ _ _ _ _ _ _ _ _ Zan rfl O_NoStyle T.n_NoStyle (by exact fun _ _ _ _ h=>h) (by rfl) (by rfl) (by rfl) (by rfl) (by exact⟨_,_,rfl⟩) (by decide))) Zaf))
theorem Zd0{fd:FuncData}(F:Fun K "read_hands_piece" "read_hands_piece" Za6 fx10 fd)(O_NoStyle:OwnCls "NoStyle" aNoStyle VEB "ValueError.__new__" mg base){dx7:FuncData}(Vx7:FnOk P w K mg base CX0 2 fx7 dx7 ["value","signs","most"] (spOf K 3 Zaj))(Wx7:Zat K dx7 ["value","signs","most"] []){dx9:FuncData}(Vx9:FnOk P w K mg base (CX1 P w) 4 fx9 dx9 ["name"] (spX K 1 Z3))(Wx9:Zat K dx9 ["name"] []):
  FnOk P w K mg base (CX1 P w) 5 fx10 fd ["words"] (spX K 1 Zq):=by
 refine okBX F Zdz rfl Z5 fun _ _ _ _ _ _ _ hr hu hv=>?_
 exact(@Zk _ _ _ _ _ _ (@Zi7 _ _ _ _ _ (@Zfo _ _ _ _ _ _ _ _ _ _ _ _ _ _ Vx9 (hr.mono (by decide)) T.m_9 T.k_9 Wx9 Zb3 (@Zc5 _ _ _ _ _ _ (@Zex _ _ _ _ (@e_ix _ _ _ _ _ _ _ hu (Zg 0) Zs (by intro _ _;rfl))) Zfn (by rfl)) (by rfl) (by decide) (by rfl) (by rfl)) (by rfl)) (@Zk _ _ _ _ _ _ (@s_if _ _ _ _ _ _ _ _ _ (@Zk8 _ _ _ _ _ (@Zk9 _ _ _ _ (@Zb2 _ _ _ _ _ _ _ _ _ _ _ _ _ _ Vx7 (hr.mono (by decide)) T.m_7 T.k_7 Wx7 (@Zx _ _ _ _ _ _ (@e_ix _ _ _ _ _ _ _ hu (Zg 0) Zs (by intro _ _;rfl)) (@Zx _ _ _ _ _ _ (@Zgm _ _ _ _ _ _ T.c_MANY_FIGURES (by rfl) (by decide)) (@Zx _ _ _ _ _ _ Zs Zbh (by rfl)) (by rfl)) (by rfl)) (by rfl) (by decide) (by rfl) (by rfl)) (by intro _;rfl))) (@Zn _ _ _ _ (@Zbx _ _ _ _ _ _ _ _ _ _ Zan rfl O_NoStyle T.n_NoStyle (by exact fun _ _ _ _ h=>h) (by rfl) (by rfl) (by rfl) (by rfl) (by exact⟨_,_,rfl⟩) (by decide))) Zaf) (@Zk _ _ _ _ _ _ (@s_if _ _ _ _ _ _ _ _ _ (@Zk8 _ _ _ _ _ (@Zk9 _ _ _ _ (@Zb2 _ _ _ _ _ _ _ _ _ _ _ _ _ _ Vx7 (hr.mono (by decide)) T.m_7 T.k_7 Wx7 (@Zx _ _ _ _ _ _ (@e_ix _ _ _ _ _ _ _ hu (Zg 0) Zs (by intro _ _;rfl)) (@Zx _ _ _ _ _ _ (@Zgm _ _ _ _ _ _ T.c_WAY_FIGURES (by rfl) (by decide)) (@Zx _ _ _ _ _ _ Zs Zbh (by rfl)) (by rfl)) (by rfl)) (by rfl) (by decide) (by rfl) (by rfl)) (by intro _;rfl))) (@Zn _ _ _ _ (@Zbx _ _ _ _ _ _ _ _ _ _ Zan rfl O_NoStyle T.n_NoStyle (by exact fun _ _ _ _ h=>h) (by rfl) (by rfl) (by rfl) (by rfl) (by exact⟨_,_,rfl⟩) (by decide))) Zaf) (@Zn _ _ _ _ (@Zay _ _ _ _ _ (@Zhy _ _ _ _ _ _ (@Zax _ _ _ _ _ _ Zai (@Zax _ _ _ _ _ _ (@e_ix _ _ _ _ _ _ _ hu (Zg 0) Zs (by intro _ _;rfl)) (@Zax _ _ _ _ _ _ (@Zq4 _ _ _ _ _ _ T.z_int (@e_ix _ _ _ _ _ _ _ hu (Zg 0) Zs (by intro _ _;rfl)) (by rfl) (by rfl) (by rfl)) (@Zax _ _ _ _ _ _ (@Zq4 _ _ _ _ _ _ T.z_int (@e_ix _ _ _ _ _ _ _ hu (Zg 0) Zs (by intro _ _;rfl)) (by rfl) (by rfl) (by rfl)) Zcb (by rfl)) (by rfl)) (by rfl)) (by rfl))))))))
theorem Zg2{fd:FuncData}(F:Fun K "read_piece" "read_piece" Zcq fx11 fd)(O_NoStyle:OwnCls "NoStyle" aNoStyle VEB "ValueError.__new__" mg base){dx9:FuncData}(Vx9:FnOk P w K mg base (CX1 P w) 4 fx9 dx9 ["name"] (spX K 1 Z3))(Wx9:Zat K dx9 ["name"] []){dx10:FuncData}(Vx10:FnOk P w K mg base (CX1 P w) 5 fx10 dx10 ["words"] (spX K 1 Zq))(Wx10:Zat K dx10 ["words"] []):
  FnOk P w K mg base (CX1 P w) 6 fx11 fd ["cut"] (spX K 1 Zm):=by
 refine okBX F Zbr rfl Zak fun _ _ _ _ _ _ _ hr hu hv=>?_
 exact(@Zk _ _ _ _ _ _ (@s_if _ _ _ _ _ _ _ _ _ (@Zv8 _ _ _ _ _ _ _ hv (@e_ix _ _ _ _ _ _ _ hu (Zg 0) Zs (by intro _ _;rfl)) Zai) (@Zn _ _ _ _ (@Zay _ _ _ _ _ (@Zhy _ _ _ _ _ _ (@Zax _ _ _ _ _ _ Zai (@Zax _ _ _ _ _ _ (Zg 0) Zcb (by rfl)) (by rfl))))) Zaf) (@Zk _ _ _ _ _ _ (@Zbv _ _ _ _ _ 1 _ _ Zbr.nd (@Zm0 _ _ _ _ _ _ _ _ (@e_sl _ _ _ _ _ _ _ _ _ _ (Zg 0) (@Zev _ _ _ _ Zs) (@Zev _ _ _ _ (@Zv7 _ _ _ _ _ Zs))) Zai (by rfl) (by rfl) (by rfl) (by rfl) (by rfl)) (by rfl) (by trivial) (by rfl) (by trivial)) (@Zk _ _ _ _ _ _ (@s_if _ _ _ _ _ _ _ _ _ (@Zc3 _ _ _ _ _ _ _ hv (@Zfz _ _ _ _ _ _ T.z_len (Zg 1) (by rfl) (by rfl) (by rfl)) Zs) (@Zn _ _ _ _ (@Zwn _ _ _ _ _ (@Zfo _ _ _ _ _ _ _ _ _ _ _ _ _ _ Vx10 (hr.mono (by decide)) T.m_10 T.k_10 Wx10 Zb3 (@Zc5 _ _ _ _ _ _ (@Zex _ _ _ _ (Zg 1)) Zfn (by rfl)) (by rfl) (by decide) (by rfl) (by rfl)))) Zaf) (@Zk _ _ _ _ _ _ (@Zbv _ _ _ _ _ 2 _ _ Zbr.nd (@Zms _ _ _ _ _ _ T.z_tuple (@Zm0 _ _ _ _ _ _ _ _ (@e_sl _ _ _ _ _ _ _ _ _ _ (Zg 0) (@Zev _ _ _ _ Zs) (@Zev _ _ _ _ (@Zv7 _ _ _ _ _ Zs))) Zai (by rfl) (by rfl) (by rfl) (by rfl) (by rfl)) (by rfl) (by rfl) (by rfl)) (by rfl) (by trivial) (by rfl) (by trivial)) (@Zk _ _ _ _ _ _ (@s_if _ _ _ _ _ _ _ _ _ (@t_gt _ _ _ _ _ _ _ (@Zfz _ _ _ _ _ _ T.z_len (Zg 2) (by rfl) (by rfl) (by rfl)) (@Zgn _ _ _ _ _ _ T.c_MOST_NAMES (by rfl) (by decide))) (@Zn _ _ _ _ (@Zbx _ _ _ _ _ _ _ _ _ _ Zan rfl O_NoStyle T.n_NoStyle (by exact fun _ _ _ _ h=>h) (by rfl) (by rfl) (by rfl) (by rfl) (by exact⟨_,_,rfl⟩) (by decide))) Zaf) (@Zk _ _ _ _ _ _ (@Zsr _ _ _ _ _ _ _ _ _ PassesOwn.leaving rfl (@Zpp _ _ _ _ _ (Zg 2)) (@Zhz _ _ _ 3 _ Zbr.nd (by rfl) (by trivial) (by trivial)) (@Zn _ _ _ _ (@Zi7 _ _ _ _ _ (@Zfo _ _ _ _ _ _ _ _ _ _ _ _ _ _ Vx9 (hr.mono (by decide)) T.m_9 T.k_9 Wx9 Zb3 (@Zc5 _ _ _ _ _ _ (@Zex _ _ _ _ (Zg 3)) Zfn (by rfl)) (by rfl) (by decide) (by rfl) (by rfl)) (by rfl))) (by intro _;rfl)) (@Zn _ _ _ _ (@Zay _ _ _ _ _ (@Zhy _ _ _ _ _ _ (@Zax _ _ _ _ _ _ Zai (@Zax _ _ _ _ _ _ (Zg 2) Zcb (by rfl)) (by rfl)))))))))))
theorem Ze2{fd:FuncData}(F:Fun K "read_template" "read_template" Zbn fx12 fd)(O_NoStyle:OwnCls "NoStyle" aNoStyle VEB "ValueError.__new__" mg base){dx3:FuncData}(Vx3:FnOk P w K mg base (CX1 P w) 3 fx3 dx3 ["text"] (spX K 1 Zas))(Wx3:Zat K dx3 ["text"] []){dx4:FuncData}(Vx4:FnOk P w K mg base (CX1 P w) 1 fx4 dx4 ["levels"] (spMX K Z8))(Wx4:Zat K dx4 ["levels"] []){dx5:FuncData}(Vx5:FnOk P w K mg base (CX1 P w) 1 fx5 dx5 ["levels"] (spMX K Z7))(Wx5:Zat K dx5 ["levels"] []){dx11:FuncData}(Vx11:FnOk P w K mg base (CX1 P w) 6 fx11 dx11 ["cut"] (spX K 1 Zm))(Wx11:Zat K dx11 ["cut"] []):
  FnOk P w K mg base (CX1 P w) 7 fx12 fd ["text"] (spX K 1 Zf):=by
 refine okBX F Za4 rfl Zw fun _ _ _ _ _ _ _ hr hu hv=>?_
 exact(@Zk _ _ _ _ _ _ (@s_if _ _ _ _ _ _ _ _ _ (@Zk8 _ _ _ _ _ (@Zk9 _ _ _ _ (@Zv3 _ _ _ _ _ _ _ _ _ T.z_isinstance T.z_str boot_str (Zmt _) (Zg 0) (by rfl) (by rfl) (by decide) (by decide) (by rfl) (by rfl) (by rfl)) (by intro _;rfl))) (@Zn _ _ _ _ (@Zbx _ _ _ _ _ _ _ _ _ _ Zan rfl O_NoStyle T.n_NoStyle (by exact fun _ _ _ _ h=>h) (by rfl) (by rfl) (by rfl) (by rfl) (by exact⟨_,_,rfl⟩) (by decide))) Zaf) (@Zk _ _ _ _ _ _ (@Zqz _ _ _ _ _ 1 _ _ Za4.nd (@Zfo _ _ _ _ _ _ _ _ _ _ _ _ _ _ Vx3 (hr.mono (by decide)) T.m_3 T.k_3 Wx3 Zb3 (@Zc5 _ _ _ _ _ _ (@Zex _ _ _ _ (Zg 0)) Zfn (by rfl)) (by rfl) (by decide) (by rfl) (by rfl)) (by rfl) (by trivial) (by rfl) (by trivial)) (@Zk _ _ _ _ _ _ (@s_if _ _ _ _ _ _ _ _ _ (@t_gt _ _ _ _ _ _ _ (@Zz6 _ _ _ _ _ _ _ (@Zfz _ _ _ _ _ _ T.z_len (Zg 1) (by rfl) (by rfl) (by rfl)) (@Zti _ _ _ _ _ _ _ _ (Zg 1) Zai (by rfl) (by rfl) (by rfl) (by rfl) (by rfl))) (@Zgn _ _ _ _ _ _ T.c_MOST_PIECES (by rfl) (by decide))) (@Zn _ _ _ _ (@Zbx _ _ _ _ _ _ _ _ _ _ Zan rfl O_NoStyle T.n_NoStyle (by exact fun _ _ _ _ h=>h) (by rfl) (by rfl) (by rfl) (by rfl) (by exact⟨_,_,rfl⟩) (by decide))) Zaf) (@Zk _ _ _ _ _ _ (@Zbv _ _ _ _ _ 2 _ _ Za4.nd Zw2 (by rfl) (by trivial) (by rfl) (by trivial)) (@Zk _ _ _ _ _ _ (@Zsr _ _ _ _ _ _ _ _ _ PassesOwn.leaving rfl (@Zpp _ _ _ _ _ (Zg 1)) (@Zhz _ _ _ 3 _ Za4.nd (by rfl) (by trivial) (by trivial)) (@Zn _ _ _ _ (@s_if _ _ _ _ _ _ _ _ _ (@Zc3 _ _ _ _ _ _ _ hv (Zg 3) Zai) (@Zn _ _ _ _ (@Zq5 _ _ _ _ 2 _ _ _ _ _ _ _ _ Vx4 (hr.mono (by decide)) T.m_4 T.k_4 Wx4 Zb3 (@Zh8 _ 2 _ _ (by rfl) (by trivial) (by decide) (by decide)) (by rfl) (by decide) (by rfl) (by rfl) (by rfl))) (@Zn _ _ _ _ (@s_if _ _ _ _ _ _ _ _ _ (@Zc3 _ _ _ _ _ _ _ hv (Zg 3) Zai) (@Zn _ _ _ _ (@Zq5 _ _ _ _ 2 _ _ _ _ _ _ _ _ Vx5 (hr.mono (by decide)) T.m_5 T.k_5 Wx5 Zb3 (@Zh8 _ 2 _ _ (by rfl) (by trivial) (by decide) (by decide)) (by rfl) (by decide) (by rfl) (by rfl) (by rfl))) (@Zn _ _ _ _ (@Zle _ _ _ _ _ _ 2 _ _ (@Zw1 _ _ _ _ _ _ _ (@Zh8 _ 2 _ _ (by rfl) (by trivial) (by decide) (by decide))) (@Zfo _ _ _ _ _ _ _ _ _ _ _ _ _ _ Vx11 (hr.mono (by decide)) T.m_11 T.k_11 Wx11 Zb3 (@Zc5 _ _ _ _ _ _ (@Zex _ _ _ _ (Zg 3)) Zfn (by rfl)) (by rfl) (by decide) (by rfl) (by rfl)) (by rfl) (by rfl) (by rfl) (by rfl) (by rfl) (by rfl))))))) (by intro _;rfl)) (@Zk _ _ _ _ _ _ (@s_if _ _ _ _ _ _ _ _ _ (@t_gt _ _ _ _ _ _ _ (@Zni _ _ _ _ 2 _ T.z_len (@Zh8 _ 2 _ _ (by rfl) (by trivial) (by decide) (by decide)) (by rfl) (by rfl) (by rfl)) Zs) (@Zn _ _ _ _ (@Zbx _ _ _ _ _ _ _ _ _ _ Zan rfl O_NoStyle T.n_NoStyle (by exact fun _ _ _ _ h=>h) (by rfl) (by rfl) (by rfl) (by rfl) (by exact⟨_,_,rfl⟩) (by decide))) Zaf) (@Zn _ _ _ _ (@Zay _ _ _ _ _ (@Znj _ _ _ _ 2 _ _ _ _ T.z_tuple (@Zh8 _ 2 _ _ (by rfl) (by trivial) (by decide) (by decide)) (by rfl) (by rfl) (by rfl))))))))))
theorem Zf3{fd:FuncData}(F:Fun K "_law_refused" "_law_refused" Zb7 fx13 fd){dx12:FuncData}(Vx12:FnOk P w K mg base (CX1 P w) 7 fx12 dx12 ["text"] (spX K 1 Zf))(Wx12:Zat K dx12 ["text"] []):
  FnOk P w K mg base CX0 8 fx13 fd ["_law_thing"] (spOf K 1 Zau):=by
 refine okB F Zaz rfl Zct fun _ _ _ _ _ _ _ hr hu hv=>?_
 exact(@Zk _ _ _ _ _ _ (@Zbv _ _ _ _ _ 1 _ _ Zaz.nd e_bl (by rfl) (by trivial) (by rfl) (by trivial)) (@Zk _ _ _ _ _ _ (@Zta _ _ _ _ _ _ _ _ _ _ _ _ _ _ _ _ (fun _ _ _ tq=>(@Zn _ _ _ _ (@Zi7 _ _ _ _ _ (@Zfo _ _ _ _ _ _ _ _ _ _ _ _ _ _ Vx12 (hr.mono (by decide)) T.m_12 T.k_12 Wx12 (tq.pass rfl) (@Zc5 _ _ _ _ _ _ (@Zex _ _ _ _ (Zg 0)) Zfn (by rfl)) (by rfl) (by decide) (by rfl) (by rfl)) (by rfl)))) T.x_NoStyle ⟨T.ty_NoStyle,T.ic_NoStyle,T.be_NoStyle⟩ Zaz.nd (fun _=>(@Zk _ _ _ _ _ _ (@Zbv _ _ _ _ _ 1 _ _ Zaz.nd (@Zpk _ _ _ _ _ _ _ _ (@Z00 _ _ _ _ _ _ _ _ _ _ _ T.z_isinstance T.x_CiteError ⟨(Ze9 T.n_NoStyle ⟨T.ek_NoStyle,T.q0_NoStyle⟩ Zc6),Zc6⟩ (Zg 2) (by rfl) (by rfl) (by decide) (by rfl) (by rfl) (by rfl)) (@Zpj _ _ _ _ _ _ (@Zwp _ _ _ _ _ _ _ _ _ _ _ T.z_isinstance T.z_ValueError Zs8 ⟨(Ze9 T.n_NoStyle ⟨T.ek_NoStyle,T.q1_NoStyle⟩ Zc6),Zc6⟩ (Zg 2) (by rfl) (by rfl) (by decide) (by decide) (by rfl) (by rfl) (by rfl)))) (by rfl) (by trivial) (by rfl) (by trivial)) (@Zn _ _ _ _ (@Zbv _ _ _ _ _ 1 _ _ Zaz.nd (@Zpk _ _ _ _ _ _ _ _ (Zg 1) (@Zpj _ _ _ _ _ _ (@Zz9 _ _ _ _ _ (@Zwr _ _ _ _ _ _ _ _ _ _ _ _ T.z_isinstance (@Zdt _ _ _ _ _ _ T.x_NoHands (@Zdt _ _ _ _ _ _ T.x_NoList (@Zdt _ _ _ _ _ _ T.x_NoName (@Zdt _ _ _ _ _ _ T.x_NoPlain (@Zdt _ _ _ _ _ _ T.x_NoRow (@Zdt _ _ _ _ _ _ T.x_NoText (@Zdt _ _ _ _ _ _ T.x_NoWork Zwq (by rfl) (by decide) (by rfl)) (by rfl) (by decide) (by rfl)) (by rfl) (by decide) (by rfl)) (by rfl) (by decide) (by rfl)) (by rfl) (by decide) (by rfl)) (by rfl) (by decide) (by rfl)) (by rfl) (by decide) (by rfl)) ⟨Zc6,(Ze9 T.n_NoStyle ⟨T.ek_NoStyle,T.q2_NoStyle⟩ Zc6)⟩ (Zg 2) (by exact Nat.le_of_ble_eq_true rfl) (by rfl) (by rfl) (by rfl) (by rfl))))) (by rfl) (by trivial) (by rfl) (by trivial))))) (Ze9 T.n_NoStyle T.h_NoStyle_NoStyle Zc6) Zc6 (by rfl) (by rfl) (by rfl) (by decide) (by rfl) (by rfl) (by rfl)) (@Zn _ _ _ _ (@Zay _ _ _ _ _ (Zg 1)))))
theorem Zeb{fd:FuncData}{lv:Nat}{r_show_template:List D→Option SV}(hlv:0≤lv)(F:Fun K "show_piece" "show_piece" Zbp fx14 fd){dx15:FuncData}(Vx15:FnOk P w K mg base CX0 (lv) fx15 dx15 ["T"] (spOf K 1 (r_show_template)))(Wx15:Zat K dx15 ["T"] []):
  FnOk P w K mg base CX0 (lv+1) fx14 fd ["piece"] (spOf K 1 (Z4 r_show_template)):=by
 refine okB F Zgz rfl (Za9 r_show_template) fun _ _ _ _ _ _ _ hr hu hv=>?_
 exact(@Zk _ _ _ _ _ _ (@s_if _ _ _ _ _ _ _ _ _ (@Zc3 _ _ _ _ _ _ _ hv (@e_ix _ _ _ _ _ _ _ hu (Zg 0) Zs (by intro _ _;rfl)) Zai) (@Zn _ _ _ _ (@Zay _ _ _ _ _ (@e_ix _ _ _ _ _ _ _ hu (Zg 0) Zs (by intro _ _;rfl)))) Zaf) (@Zk _ _ _ _ _ _ (@s_if _ _ _ _ _ _ _ _ _ (@Zc3 _ _ _ _ _ _ _ hv (@e_ix _ _ _ _ _ _ _ hu (Zg 0) Zs (by intro _ _;rfl)) Zai) (@Zn _ _ _ _ (@Zay _ _ _ _ _ (@Zaw _ _ _ _ _ _ _ (@Zaw _ _ _ _ _ _ _ Zai (@Zm1 _ _ _ _ _ _ _ _ Zai (@e_ix _ _ _ _ _ _ _ hu (Zg 0) Zs (by intro _ _;rfl)) (by rfl) (by rfl) (by rfl) (by rfl) (by rfl))) Zai))) Zaf) (@Zk _ _ _ _ _ _ (@s_if _ _ _ _ _ _ _ _ _ (@Zc3 _ _ _ _ _ _ _ hv (@e_ix _ _ _ _ _ _ _ hu (Zg 0) Zs (by intro _ _;rfl)) Zai) (@Zn _ _ _ _ (@Zay _ _ _ _ _ (@Zaw _ _ _ _ _ _ _ (@Zaw _ _ _ _ _ _ _ (@Zaw _ _ _ _ _ _ _ (@Zaw _ _ _ _ _ _ _ (@Zaw _ _ _ _ _ _ _ (@Zaw _ _ _ _ _ _ _ Zai (@e_ix _ _ _ _ _ _ _ hu (Zg 0) Zs (by intro _ _;rfl))) Zai) (@Zqy _ _ _ _ _ _ T.z_str (@e_ix _ _ _ _ _ _ _ hu (Zg 0) Zs (by intro _ _;rfl)) (by rfl) (by rfl) (by rfl))) Zai) (@Zqy _ _ _ _ _ _ T.z_str (@e_ix _ _ _ _ _ _ _ hu (Zg 0) Zs (by intro _ _;rfl)) (by rfl) (by rfl) (by rfl))) Zai))) Zaf) (@Zn _ _ _ _ (@Zay _ _ _ _ _ (@Zaw _ _ _ _ _ _ _ (@Zaw _ _ _ _ _ _ _ Zai (@Zb2 _ _ _ _ _ _ _ _ _ _ _ _ _ _ Vx15 (hr.mono (by omega)) T.m_15 T.k_15 Wx15 (@Zx _ _ _ _ _ _ (@e_ix _ _ _ _ _ _ _ hu (Zg 0) Zs (by intro _ _;rfl)) Zbh (by rfl)) (by rfl) (by decide) (by rfl) (by rfl))) Zai))))))
theorem Ze3{fd:FuncData}{lv:Nat}{r_show_template:List D→Option SV}(hlv:0≤lv)(F:Fun K "show_template" "show_template" Za3 fx15 fd){dx14:FuncData}(Vx14:FnOk P w K mg base CX0 (lv+1) fx14 dx14 ["piece"] (spOf K 1 (Z4 r_show_template)))(Wx14:Zat K dx14 ["piece"] []):
  FnOk P w K mg base CX0 (lv+2) fx15 fd ["T"] (spOf K 1 (Zds (Zbe r_show_template) 1)):=by
 refine okB F Ze1 rfl (Zbe r_show_template) fun _ _ _ _ _ _ _ hr hu hv=>?_
 exact(@Zn _ _ _ _ (@Zay _ _ _ _ _ (@Zm1 _ _ _ _ _ _ _ _ Zai (@Zqs _ _ _ _ _ _ _ _ _ _ _ _ _ _ _ rfl (Zh0 (N':=["piece",".acc"]) (src:=[.own,.acc]) (by rfl) (by rfl) (by rfl) (by rfl) (by rfl) (by rfl)) (Zv4 1 (by rfl) (by rfl)) (by decide) (@Zpp _ _ _ _ _ (Zg 0)) (fun _ _ _ _=>@xg _ _ _ (fun _=>(@Zhz _ _ _ 0 _ (show(["piece",".acc"]:List Str).Nodup by decide+kernel) (by rfl) (by trivial) (by trivial)))) (fun _ _ _ _=>xt0) (fun _ _ _ _=>@xe _ _ _ (fun _=>(@Zb2 _ _ _ _ _ _ _ _ _ _ _ _ _ _ Vx14 (hr.mono (by omega)) T.m_14 T.k_14 Wx14 (@Zx _ _ _ _ _ _ (Zg 0) Zbh (by rfl)) (by rfl) (by decide) (by rfl) (by rfl)))) (by intro _;rfl)) (by rfl) (by rfl) (by rfl) (by rfl) (by rfl))))
theorem Zcf{dx14:FuncData}(Ux14:Fun K "show_piece" "show_piece" Zbp fx14 dx14)(Wx14:Zat K dx14 ["piece"] []){dx15:FuncData}(Ux15:Fun K "show_template" "show_template" Za3 fx15 dx15)(Wx15:Zat K dx15 ["T"] []):
  ∀n:Nat,FnOk P w K mg base CX0 (0+2*n) fx15 dx15 ["T"] (spOf K 1 (Zr n))
 |0=>Zm9
 |n+1=>by
  have Vx15:=Zcf Ux14 Wx14 Ux15 Wx15 n
  have Vx14:=Zeb T (lv:=0+2*n) (by omega) Ux14 Vx15 Wx15
  exact(Ze3 T (lv:=0+2*n) (by omega) Ux15 Vx14 Wx14).mono (by omega)
theorem Zf4{fd:FuncData}(F:Fun K "_law_cell_at" "_law_cell_at" Zb8 fx16 fd):
  FnOk P w K mg base CX0 1 fx16 fd ["_law_script","_law_k"] (spOf K 2 Zbf):=by
 refine okB F Zf1 rfl Zcu fun _ _ _ _ _ _ _ hr hu hv=>?_
 exact(@Zk _ _ _ _ _ _ (@s_if _ _ _ _ _ _ _ _ _ (@t_lt _ _ _ _ _ _ _ (Zg 1) (@Zfz _ _ _ _ _ _ T.z_len (Zg 0) (by rfl) (by rfl) (by rfl))) (@Zn _ _ _ _ (@Zay _ _ _ _ _ (@e_ix _ _ _ _ _ _ _ hu (Zg 0) (Zg 1) (by intro _ _;rfl)))) Zaf) (@Zn _ _ _ _ (@Zay _ _ _ _ _ Zs)))
theorem Zf5{fd:FuncData}(F:Fun K "_law_spoiled" "_law_spoiled" Zb9 fx17 fd):
  FnOk P w K mg base CX0 1 fx17 fd ["_law_text_here","_law_cell"] (spOf K 2 Zl):=by
 refine okB F Z2 rfl Z1 fun _ _ _ _ _ _ _ hr hu hv=>?_
 exact(@Zk _ _ _ _ _ _ (@Zbv _ _ _ _ _ 2 _ _ Z2.nd (@Zcl _ _ _ _ _ _ _ (@Zhx _ _ _ _ _ _ _ (Zg 1) Zs) (@Zaw _ _ _ _ _ _ _ (@Zfz _ _ _ _ _ _ T.z_len (Zg 0) (by rfl) (by rfl) (by rfl)) Zs)) (by rfl) (by trivial) (by rfl) (by trivial)) (@Zk _ _ _ _ _ _ (@Zbv _ _ _ _ _ 3 _ _ Z2.nd (@e_sl _ _ _ _ _ _ _ _ _ _ (Zg 0) Zqr (@Zev _ _ _ _ (Zg 2))) (by rfl) (by trivial) (by rfl) (by trivial)) (@Zk _ _ _ _ _ _ (@Zbv _ _ _ _ _ 4 _ _ Z2.nd (@e_sl _ _ _ _ _ _ _ _ _ _ (Zg 0) (@Zev _ _ _ _ (Zg 2)) Zqr) (by rfl) (by trivial) (by rfl) (by trivial)) (@Zk _ _ _ _ _ _ (@Zbv _ _ _ _ _ 5 _ _ Z2.nd (@Zhx _ _ _ _ _ _ _ (Zg 1) Zs) (by rfl) (by trivial) (by rfl) (by trivial)) (@Zk _ _ _ _ _ _ (@s_if _ _ _ _ _ _ _ _ _ (@Zc3 _ _ _ _ _ _ _ hv (@Zcl _ _ _ _ _ _ _ (Zg 1) Zs) Zs) (@Zn _ _ _ _ (@Zay _ _ _ _ _ (@Zaw _ _ _ _ _ _ _ (@Zaw _ _ _ _ _ _ _ (Zg 3) (@e_ix _ _ _ _ _ _ _ hu Zai (@Zcl _ _ _ _ _ _ _ (Zg 5) Zs) (by intro _ _;rfl))) (Zg 4)))) Zaf) (@Zk _ _ _ _ _ _ (@s_if _ _ _ _ _ _ _ _ _ (@Zc3 _ _ _ _ _ _ _ hv (@Zcl _ _ _ _ _ _ _ (Zg 1) Zs) Zs) (@Zn _ _ _ _ (@Zay _ _ _ _ _ (@Zaw _ _ _ _ _ _ _ (@Zaw _ _ _ _ _ _ _ (Zg 3) Zai) (Zg 4)))) Zaf) (@Zk _ _ _ _ _ _ (@s_if _ _ _ _ _ _ _ _ _ (@Zc3 _ _ _ _ _ _ _ hv (@Zcl _ _ _ _ _ _ _ (Zg 1) Zs) Zs) (@Zn _ _ _ _ (@Zay _ _ _ _ _ (@Zaw _ _ _ _ _ _ _ (Zg 0) (@e_ix _ _ _ _ _ _ _ hu (@Zez _ _ _ _ _ (@Zcm _ _ _ _ [("]",_,_),("[",_,_),("{",_,_),("}",_,_),("[a",_,_),("{a",_,_),("a]",_,_),("a}",_,_),("[[a]",_,_),("[{a]}",_,_),("{[a]}",_,_)] Zcb)) (@Zcl _ _ _ _ _ _ _ (Zg 5) Zs) (by intro _ _;rfl))))) Zaf) (@Zk _ _ _ _ _ _ (@s_if _ _ _ _ _ _ _ _ _ (@Zc3 _ _ _ _ _ _ _ hv (@Zcl _ _ _ _ _ _ _ (Zg 1) Zs) Zs) (@Zk _ _ _ _ _ _ (@Zbv _ _ _ _ _ 6 _ _ Z2.nd (@Zez _ _ _ _ _ (@Zax _ _ _ _ _ _ (@Zaw _ _ _ _ _ _ _ (@Zaw _ _ _ _ _ _ _ (@Zfl _ _ _ _ _ _ _ Zai Zs) Zai) (@Zfl _ _ _ _ _ _ _ Zai Zs)) (@Zax _ _ _ _ _ _ (@Zfl _ _ _ _ _ _ _ Zai Zs) Zcb (by rfl)) (by rfl))) (by rfl) (by trivial) (by rfl) (by trivial)) (@Zn _ _ _ _ (@Zay _ _ _ _ _ (@Zaw _ _ _ _ _ _ _ (Zg 0) (@e_ix _ _ _ _ _ _ _ hu (@Zaw _ _ _ _ _ _ _ (@Zez _ _ _ _ _ (@Zcm _ _ _ _ [("[[[[a]]]]",_,_),("[[[[{a}]x]]]",_,_),("a[b[c[d[e]]]]",_,_)] Zcb)) (Zg 6)) (@Zcl _ _ _ _ _ _ _ (Zg 5) Zs) (by intro _ _;rfl)))))) Zaf) (@Zk _ _ _ _ _ _ (@s_if _ _ _ _ _ _ _ _ _ (@Zc3 _ _ _ _ _ _ _ hv (@Zcl _ _ _ _ _ _ _ (Zg 1) Zs) Zs) (@Zk _ _ _ _ _ _ (@Zbv _ _ _ _ _ 7 _ _ Z2.nd (@Zez _ _ _ _ _ (@Zcm _ _ _ _ [("{}",_,_),("{A}",_,_),("{note}",_,_),("{a|}",_,_),("{|a}",_,_),("{a|b|c|d|e}",_,_),("{abcdefghi}",_,_),("{ a}",_,_),("{a }",_,_)] Zcb)) (by rfl) (by trivial) (by rfl) (by trivial)) (@Zn _ _ _ _ (@Zay _ _ _ _ _ (@Zaw _ _ _ _ _ _ _ (Zg 0) (@e_ix _ _ _ _ _ _ _ hu (@Zaw _ _ _ _ _ _ _ (Zg 7) (@Zez _ _ _ _ _ (@Zcm _ _ _ _ [("{a1}",_,_),("{a|note}",_,_)] Zcb))) (@Zcl _ _ _ _ _ _ _ (Zg 5) Zs) (by intro _ _;rfl)))))) Zaf) (@Zk _ _ _ _ _ _ (@s_if _ _ _ _ _ _ _ _ _ (@Zc3 _ _ _ _ _ _ _ hv (@Zcl _ _ _ _ _ _ _ (Zg 1) Zs) Zs) (@Zk _ _ _ _ _ _ (@Zbv _ _ _ _ _ 7 _ _ Z2.nd (@Zez _ _ _ _ _ (@Zcm _ _ _ _ [("{a 0 1}",_,_),("{a 10 1}",_,_),("{a 1 3}",_,_),("{a 1}",_,_),("{a  1 1}",_,_),("{a|b 1 1}",_,_),("{note 1 1}",_,_)] Zcb)) (by rfl) (by trivial) (by rfl) (by trivial)) (@Zk _ _ _ _ _ _ (@Zbv _ _ _ _ _ 7 _ _ Z2.nd (@Zaw _ _ _ _ _ _ _ (Zg 7) (@Zez _ _ _ _ _ (@Zcm _ _ _ _ [("{a 1 1 1}",_,_),("{a 1 01}",_,_)] Zcb))) (by rfl) (by trivial) (by rfl) (by trivial)) (@Zn _ _ _ _ (@Zay _ _ _ _ _ (@Zaw _ _ _ _ _ _ _ (Zg 0) (@e_ix _ _ _ _ _ _ _ hu (@Zaw _ _ _ _ _ _ _ (Zg 7) (@Zez _ _ _ _ _ (@Zcm _ _ _ _ [("{a x 1}",_,_),("{a 1 -}",_,_),("{ 1 1}",_,_),("{a 1 }",_,_)] Zcb))) (@Zcl _ _ _ _ _ _ _ (Zg 5) Zs) (by intro _ _;rfl))))))) Zaf) (@Zk _ _ _ _ _ _ (@s_if _ _ _ _ _ _ _ _ _ (@Zc3 _ _ _ _ _ _ _ hv (@Zcl _ _ _ _ _ _ _ (Zg 1) Zs) Zs) (@Zn _ _ _ _ (@Zay _ _ _ _ _ (@Zfl _ _ _ _ _ _ _ Zai (@Zaw _ _ _ _ _ _ _ Zs (@Zcl _ _ _ _ _ _ _ (Zg 5) Zs))))) Zaf) (@Zn _ _ _ _ (@Zay _ _ _ _ _ (@Zaw _ _ _ _ _ _ _ (@Zfl _ _ _ _ _ _ _ Zai Zs) (@Zfl _ _ _ _ _ _ _ Zai (@Zaw _ _ _ _ _ _ _ Zs (@Zcl _ _ _ _ _ _ _ (Zg 5) Zs)))))))))))))))))
theorem Zxf{fd:FuncData}(F:Fun K "law" "law" Zd9 fx18 fd){dx0:FuncData}(Vx0:FnOk P w K mg base CX0 1 fx0 dx0 ["_law_cell"] (spOf K 1 Zcd))(Wx0:Zat K dx0 ["_law_cell"] []){dx12:FuncData}(Vx12:FnOk P w K mg base (CX1 P w) 7 fx12 dx12 ["text"] (spX K 1 Zf))(Wx12:Zat K dx12 ["text"] []){dx13:FuncData}(Vx13:FnOk P w K mg base CX0 8 fx13 dx13 ["_law_thing"] (spOf K 1 Zau))(Wx13:Zat K dx13 ["_law_thing"] []){dx15:FuncData}(Vx15:FnOk P w K mg base CX0 24 fx15 dx15 ["T"] (spOf K 1 Zaa))(Wx15:Zat K dx15 ["T"] []){dx16:FuncData}(Vx16:FnOk P w K mg base CX0 1 fx16 dx16 ["_law_script","_law_k"] (spOf K 2 Zbf))(Wx16:Zat K dx16 ["_law_script","_law_k"] []){dx17:FuncData}(Vx17:FnOk P w K mg base CX0 1 fx17 dx17 ["_law_text_here","_law_cell"] (spOf K 2 Zl))(Wx17:Zat K dx17 ["_law_text_here","_law_cell"] []):
  FnOk P w K mg base CX0 25 fx18 fd ["_law_script"] (spOf K 1 Zgw):=by
 refine okB F Zke rfl Ztn fun _ _ _ _ _ _ _ hr hu hv=>?_
 exact(@Zk _ _ _ _ _ _ (@Zsr _ _ _ _ _ _ _ _ _ PassesOwn.never rfl (@Z0a _ _ _ _ _ _ _ T.z_range (@Z02 _ _ _ _ _ _ _ _ T.z_min rfl (@Zfz _ _ _ _ _ _ T.z_len (Zg 0) (by rfl) (by rfl) (by rfl)) Zs (by rfl) (by rfl) (by rfl) (by rfl)) (by rfl) (by rfl)) (@Zhz _ _ _ 1 _ Zke.nd (by rfl) (by trivial) (by trivial)) (@Zk _ _ _ _ _ _ (@Zbv _ _ _ _ _ 2 _ _ Zke.nd (@Zb2 _ _ _ _ _ _ _ _ _ _ _ _ _ _ Vx0 (hr.mono (by decide)) T.m_0 T.k_0 Wx0 (@Zx _ _ _ _ _ _ (@e_ix _ _ _ _ _ _ _ hu (Zg 0) (Zg 1) (by intro _ _;rfl)) Zbh (by rfl)) (by rfl) (by decide) (by rfl) (by rfl)) (by rfl) (by trivial) (by rfl) (by trivial)) (@Zk _ _ _ _ _ _ (@s_if _ _ _ _ _ _ _ _ _ (@Zk8 _ _ _ _ _ (@Zk9 _ _ _ _ (@Zb2 _ _ _ _ _ _ _ _ _ _ _ _ _ _ Vx13 (hr.mono (by decide)) T.m_13 T.k_13 Wx13 (@Zx _ _ _ _ _ _ (@Zb2 _ _ _ _ _ _ _ _ _ _ _ _ _ _ Vx17 (hr.mono (by decide)) T.m_17 T.k_17 Wx17 (@Zx _ _ _ _ _ _ (Zg 2) (@Zx _ _ _ _ _ _ (@Zaw _ _ _ _ _ _ _ (@Zhx _ _ _ _ _ _ _ (@e_ix _ _ _ _ _ _ _ hu (Zg 0) (Zg 1) (by intro _ _;rfl)) Zs) (Zg 1)) Zbh (by rfl)) (by rfl)) (by rfl) (by decide) (by rfl) (by rfl)) Zbh (by rfl)) (by rfl) (by decide) (by rfl) (by rfl)) (by intro _;rfl))) (@Zn _ _ _ _ (@Zay _ _ _ _ _ e_bl)) Zaf) (@Zn _ _ _ _ (@s_if _ _ _ _ _ _ _ _ _ (@Zv8 _ _ _ _ _ _ _ hv (@Zb2 _ _ _ _ _ _ _ _ _ _ _ _ _ _ Vx15 (hr.mono (by decide)) T.m_15 T.k_15 Wx15 (@Zx _ _ _ _ _ _ (@Zm6 _ _ _ _ _ _ _ _ _ _ _ _ _ _ Vx12 (hr.mono (by decide)) T.m_12 T.k_12 Wx12 (@Zx _ _ _ _ _ _ (Zg 2) Zbh (by rfl)) (by rfl) (by decide) (by rfl) (by rfl)) Zbh (by rfl)) (by rfl) (by decide) (by rfl) (by rfl)) (Zg 2)) (@Zn _ _ _ _ (@Zay _ _ _ _ _ e_bl)) Zaf)))) (by intro _;rfl)) (@Zk _ _ _ _ _ _ (@Zbv _ _ _ _ _ 3 _ _ Zke.nd (@e_ix _ _ _ _ _ _ _ hu (@Zez _ _ _ _ _ (@Zax _ _ _ _ _ _ Zz5 (@Zax _ _ _ _ _ _ Zs (@Zax _ _ _ _ _ _ (@Zhy _ _ _ _ _ _ (@Zcm _ _ _ _ [("signs",_,_),("a",_,_)] Zcb)) (@Zax _ _ _ _ _ _ (@Zez _ _ _ _ _ (@Zax _ _ _ _ _ _ Zai Zcb (by rfl))) Zcb (by rfl)) (by rfl)) (by rfl)) (by rfl))) (@Zcl _ _ _ _ _ _ _ (@Zb2 _ _ _ _ _ _ _ _ _ _ _ _ _ _ Vx16 (hr.mono (by decide)) T.m_16 T.k_16 Wx16 (@Zx _ _ _ _ _ _ (Zg 0) (@Zx _ _ _ _ _ _ Zs Zbh (by rfl)) (by rfl)) (by rfl) (by decide) (by rfl) (by rfl)) Zs) (by intro _ _;rfl)) (by rfl) (by trivial) (by rfl) (by trivial)) (@Zn _ _ _ _ (@Zay _ _ _ _ _ (@Zpk _ _ _ _ _ _ _ _ (@Zb2 _ _ _ _ _ _ _ _ _ _ _ _ _ _ Vx13 (hr.mono (by decide)) T.m_13 T.k_13 Wx13 (@Zx _ _ _ _ _ _ (Zg 3) Zbh (by rfl)) (by rfl) (by decide) (by rfl) (by rfl)) (@Zpj _ _ _ _ _ _ (@Z0e _ _ _ _ _ _ _ hv (@Zm6 _ _ _ _ _ _ _ _ _ _ _ _ _ _ Vx12 (hr.mono (by decide)) T.m_12 T.k_12 Wx12 (@Zx _ _ _ _ _ _ (@Zfl _ _ _ _ _ _ _ Zai Zs) Zbh (by rfl)) (by rfl) (by decide) (by rfl) (by rfl)) (@Zxa _ _ _ _ _ _ _ (@Zhy _ _ _ _ _ _ (@Zax _ _ _ _ _ _ (@Zhy _ _ _ _ _ _ (@Zax _ _ _ _ _ _ Zai (@Zax _ _ _ _ _ _ (@Zhy _ _ _ _ _ _ (@Zax _ _ _ _ _ _ Zai Zcb (by rfl))) Zcb (by rfl)) (by rfl))) Zcb (by rfl))) Zs))))))))
end
theorem Zxg {l : PySem.W.OpenLaw} {w : World} {K : PySem.W.Frag} {h : Heap} {mg : Str → Option Value} {tx0 : Tok} {tx1 : Tok} {tx2 : Tok} {tx3 : Tok} {tx4 : Tok} {tx5 : Tok} {tx6 : Tok} {tx7 : Tok} {fa fx0 fx1 fx2 fx3 fx4 fx5 fx6 fx7 fx8 fx9 fx10 fx11 fx12 fx13 fx14 fx15 fx16 fx17 fx18 aCiteError aNoHands aNoList aNoName aNoPlain aNoRow aNoStyle aNoText aNoWork : Addr} (X : K.In h) (G : h.Ns mainGlobals mg) (hfa : mg "law" = some (.ref fa))
    {odx18 anx18 : Option Addr} {slx18 : Array (Option Value)} {ocx18 kVx18 dcx18 pmx18 cdx18 ctx18 : Value}
    (ax0 : PySem.W.nsIn K mainGlobals "_law_text" = some (some (.ref fx0))) (Fx0 : ∃ fd, Fun K "_law_text" "_law_text" Zdw fx0 fd) (kx0 : PySem.W.keepIn K (.ref fx0) = true)
    (ax1 : PySem.W.nsIn K mainGlobals "signs_end" = some (some (.ref fx1))) (Fx1 : ∃ fd, Fun K "signs_end" "signs_end" Zc8 fx1 fd) (kx1 : PySem.W.keepIn K (.ref fx1) = true)
    (ax2 : PySem.W.nsIn K mainGlobals "cut_end" = some (some (.ref fx2))) (Fx2 : ∃ fd, Fun K "cut_end" "cut_end" Zen fx2 fd) (kx2 : PySem.W.keepIn K (.ref fx2) = true)
    (ax3 : PySem.W.nsIn K mainGlobals "cuts_of" = some (some (.ref fx3))) (Fx3 : ∃ fd, Fun K "cuts_of" "cuts_of" Zeo fx3 fd) (kx3 : PySem.W.keepIn K (.ref fx3) = true)
    (ax4 : PySem.W.nsIn K mainGlobals "begin_group" = some (some (.ref fx4))) (Fx4 : ∃ fd, Fun K "begin_group" "begin_group" Zb6 fx4 fd) (kx4 : PySem.W.keepIn K (.ref fx4) = true)
    (ax5 : PySem.W.nsIn K mainGlobals "end_group" = some (some (.ref fx5))) (Fx5 : ∃ fd, Fun K "end_group" "end_group" Zc9 fx5 fd) (kx5 : PySem.W.keepIn K (.ref fx5) = true)
    (ax6 : PySem.W.nsIn K mainGlobals "is_all_of" = some (some (.ref fx6))) (Fx6 : ∃ fd, Fun K "is_all_of" "is_all_of" Zda fx6 fd) (kx6 : PySem.W.keepIn K (.ref fx6) = true)
    (ax7 : PySem.W.nsIn K mainGlobals "is_text_of" = some (some (.ref fx7))) (Fx7 : ∃ fd, Fun K "is_text_of" "is_text_of" Zco fx7 fd) (kx7 : PySem.W.keepIn K (.ref fx7) = true)
    (ax8 : PySem.W.nsIn K mainGlobals "is_name" = some (some (.ref fx8))) (Fx8 : ∃ fd, Fun K "is_name" "is_name" Zep fx8 fd) (kx8 : PySem.W.keepIn K (.ref fx8) = true)
    (ax9 : PySem.W.nsIn K mainGlobals "check_name" = some (some (.ref fx9))) (Fx9 : ∃ fd, Fun K "check_name" "check_name" Zcp fx9 fd) (kx9 : PySem.W.keepIn K (.ref fx9) = true)
    (ax10 : PySem.W.nsIn K mainGlobals "read_hands_piece" = some (some (.ref fx10))) (Fx10 : ∃ fd, Fun K "read_hands_piece" "read_hands_piece" Za6 fx10 fd) (kx10 : PySem.W.keepIn K (.ref fx10) = true)
    (ax11 : PySem.W.nsIn K mainGlobals "read_piece" = some (some (.ref fx11))) (Fx11 : ∃ fd, Fun K "read_piece" "read_piece" Zcq fx11 fd) (kx11 : PySem.W.keepIn K (.ref fx11) = true)
    (ax12 : PySem.W.nsIn K mainGlobals "read_template" = some (some (.ref fx12))) (Fx12 : ∃ fd, Fun K "read_template" "read_template" Zbn fx12 fd) (kx12 : PySem.W.keepIn K (.ref fx12) = true)
    (ax13 : PySem.W.nsIn K mainGlobals "_law_refused" = some (some (.ref fx13))) (Fx13 : ∃ fd, Fun K "_law_refused" "_law_refused" Zb7 fx13 fd) (kx13 : PySem.W.keepIn K (.ref fx13) = true)
    (ax14 : PySem.W.nsIn K mainGlobals "show_piece" = some (some (.ref fx14))) (Fx14 : ∃ fd, Fun K "show_piece" "show_piece" Zbp fx14 fd) (kx14 : PySem.W.keepIn K (.ref fx14) = true)
    (ax15 : PySem.W.nsIn K mainGlobals "show_template" = some (some (.ref fx15))) (Fx15 : ∃ fd, Fun K "show_template" "show_template" Za3 fx15 fd) (kx15 : PySem.W.keepIn K (.ref fx15) = true)
    (ax16 : PySem.W.nsIn K mainGlobals "_law_cell_at" = some (some (.ref fx16))) (Fx16 : ∃ fd, Fun K "_law_cell_at" "_law_cell_at" Zb8 fx16 fd) (kx16 : PySem.W.keepIn K (.ref fx16) = true)
    (ax17 : PySem.W.nsIn K mainGlobals "_law_spoiled" = some (some (.ref fx17))) (Fx17 : ∃ fd, Fun K "_law_spoiled" "_law_spoiled" Zb9 fx17 fd) (kx17 : PySem.W.keepIn K (.ref fx17) = true)
    (ax18 : PySem.W.nsIn K mainGlobals "law" = some (some (.ref fx18))) (lx18 : K.lookup fx18 = some ⟨ocx18, odx18, .func (PySem.W.fnOf "law" "law" (Zef Zd9) (Zbs Zd9) (Zi Zd9) .none kVx18 dcx18 pmx18 anx18 cdx18 ctx18), slx18⟩) (cx18 : PySem.W.codeIn K cdx18 "law" = true) (kx18 : PySem.W.keepIn K (.ref fx18) = true)
    (zValueError : PySem.W.nsIn K mainGlobals "ValueError" = some none)
    (zall : PySem.W.nsIn K mainGlobals "all" = some none)
    (zint : PySem.W.nsIn K mainGlobals "int" = some none)
    (zisinstance : PySem.W.nsIn K mainGlobals "isinstance" = some none)
    (zlen : PySem.W.nsIn K mainGlobals "len" = some none)
    (zmin : PySem.W.nsIn K mainGlobals "min" = some none)
    (zrange : PySem.W.nsIn K mainGlobals "range" = some none)
    (zstr : PySem.W.nsIn K mainGlobals "str" = some none)
    (ztuple : PySem.W.nsIn K mainGlobals "tuple" = some none)
    (zx0 : PySem.W.nsIn K mainGlobals "MANY_FIGURES" = some (some (.str "123456789" tx0)))
    (zx1 : PySem.W.nsIn K mainGlobals "MOST_DEEP" = some (some (.int 3 tx1)))
    (zx2 : PySem.W.nsIn K mainGlobals "MOST_NAMES" = some (some (.int 4 tx2)))
    (zx3 : PySem.W.nsIn K mainGlobals "MOST_PIECES" = some (some (.int 30 tx3)))
    (zx4 : PySem.W.nsIn K mainGlobals "NAME_LENGTH" = some (some (.int 8 tx4)))
    (zx5 : PySem.W.nsIn K mainGlobals "SMALL_LETTERS" = some (some (.str "abcdefghijklmnopqrstuvwxyz" tx5)))
    (zx6 : PySem.W.nsIn K mainGlobals "STYLE_SIGNS" = some (some (.str "ABCDEFGHIJKLMNOPQRSTUVWXYZabcdefghijklmnopqrstuvwxyz0123456789 .,!?'-/()&+*=:;" tx6)))
    (zx7 : PySem.W.nsIn K mainGlobals "WAY_FIGURES" = some (some (.str "012" tx7)))
    (zc_CiteError : PySem.W.nsIn K mainGlobals "CiteError" = some (some (.ref aCiteError)))
    (zc_NoHands : PySem.W.nsIn K mainGlobals "NoHands" = some (some (.ref aNoHands)))
    (zc_NoList : PySem.W.nsIn K mainGlobals "NoList" = some (some (.ref aNoList)))
    (zc_NoName : PySem.W.nsIn K mainGlobals "NoName" = some (some (.ref aNoName)))
    (zc_NoPlain : PySem.W.nsIn K mainGlobals "NoPlain" = some (some (.ref aNoPlain)))
    (zc_NoRow : PySem.W.nsIn K mainGlobals "NoRow" = some (some (.ref aNoRow)))
    (zc_NoStyle : PySem.W.nsIn K mainGlobals "NoStyle" = some (some (.ref aNoStyle)))
    (zc_NoText : PySem.W.nsIn K mainGlobals "NoText" = some (some (.ref aNoText)))
    (zc_NoWork : PySem.W.nsIn K mainGlobals "NoWork" = some (some (.ref aNoWork)))
    (ty_NoStyle : PySem.W.typeIn K (.ref aNoStyle) = some (.type "type"))
    (ic_NoStyle : PySem.W.isClsIn K aNoStyle = true)
    (be_NoStyle : PySem.W.mroIn K aNoStyle (.type "BaseException") = some true)
    (h_NoStyle_NoStyle : PySem.W.mroIn K aNoStyle (.ref aNoStyle) = some true)
    (q0_NoStyle : PySem.W.kitOne K (.ref aNoStyle) (.ref aCiteError) = some true)
    (q1_NoStyle : PySem.W.kitOne K (.ref aNoStyle) (.type "ValueError") = some true)
    (q2_NoStyle : PySem.W.kitAny K (.ref aNoStyle) [Value.ref aNoHands, Value.ref aNoList, Value.ref aNoName, Value.ref aNoPlain, Value.ref aNoRow, Value.ref aNoText, Value.ref aNoWork] = some false)
    (ecl_NoStyle : PySem.W.isClsIn K aNoStyle = true)
    (ega_NoStyle : PySem.W.findIn K (.ref aNoStyle) "__getattribute__" = some (some (.builtin "BaseException.__getattribute__")))
    (egt_NoStyle : PySem.W.findIn K (.ref aNoStyle) "__getattr__" = some none)
    (eca_NoStyle : PySem.W.findIn K (.ref aNoStyle) "__class__" = some (some (.builtin "object.__class__")))
    (egs_NoStyle : PySem.W.specialIn K (.builtin "object.__class__") "__get__" = some (some (.builtin "getset_descriptor.__get__")))
    (etk_NoStyle : PySem.W.takesIn K (.builtin "object.__class__") = some true)
    (eob_NoStyle : PySem.W.mroIn K aNoStyle (.type "object") = some true)
    (ebe_NoStyle : PySem.W.mroIn K aNoStyle (.type "BaseException") = some true)
    (ow_NoStyle : PySem.W.excIn K aNoStyle VEB "ValueError.__new__" = true)
    : ∃ fd : FuncData, (∀ (s : Shared) (v : Value), BindsTo s fd ⟨[v], []⟩ [("_law_script", v)]) ∧ ∀ base : Heap, K.In base → base.Ns mainGlobals mg → FnOk l.prog w K mg base CX0 25 fa fd ["_law_script"] (spOf K 1 Zgw) := by
  have e := hfa.symm.trans (PySem.W.mg_of X G ax18)
  cases e
  have T : Txt K mg tx0 tx1 tx2 tx3 tx4 tx5 tx6 tx7 fx0 fx1 fx2 fx3 fx4 fx5 fx6 fx7 fx8 fx9 fx10 fx11 fx12 fx13 fx14 fx15 fx16 fx17 _ aCiteError aNoHands aNoList aNoName aNoPlain aNoRow aNoStyle aNoText aNoWork := ⟨PySem.W.mg_of X G zc_CiteError, PySem.W.mg_of X G zc_NoHands, PySem.W.mg_of X G zc_NoList, PySem.W.mg_of X G zc_NoName, PySem.W.mg_of X G zc_NoPlain, PySem.W.mg_of X G zc_NoRow, PySem.W.mg_of X G zc_NoStyle, PySem.W.mg_of X G zc_NoText, PySem.W.mg_of X G zc_NoWork, zc_NoStyle, ⟨ecl_NoStyle, ega_NoStyle, egt_NoStyle, eca_NoStyle, egs_NoStyle, etk_NoStyle, eob_NoStyle, ebe_NoStyle⟩, ty_NoStyle, ic_NoStyle, be_NoStyle, h_NoStyle_NoStyle, q0_NoStyle, q1_NoStyle, q2_NoStyle, PySem.W.mg_none_of X G zValueError, PySem.W.mg_none_of X G zall, PySem.W.mg_none_of X G zint, PySem.W.mg_none_of X G zisinstance, PySem.W.mg_none_of X G zlen, PySem.W.mg_none_of X G zmin, PySem.W.mg_none_of X G zrange, PySem.W.mg_none_of X G zstr, PySem.W.mg_none_of X G ztuple, PySem.W.mg_of X G zx0, PySem.W.mg_of X G zx1, PySem.W.mg_of X G zx2, PySem.W.mg_of X G zx3, PySem.W.mg_of X G zx4, PySem.W.mg_of X G zx5, PySem.W.mg_of X G zx6, PySem.W.mg_of X G zx7, PySem.W.mg_of X G ax0, kx0, PySem.W.mg_of X G ax1, kx1, PySem.W.mg_of X G ax2, kx2, PySem.W.mg_of X G ax3, kx3, PySem.W.mg_of X G ax4, kx4, PySem.W.mg_of X G ax5, kx5, PySem.W.mg_of X G ax6, kx6, PySem.W.mg_of X G ax7, kx7, PySem.W.mg_of X G ax8, kx8, PySem.W.mg_of X G ax9, kx9, PySem.W.mg_of X G ax10, kx10, PySem.W.mg_of X G ax11, kx11, PySem.W.mg_of X G ax12, kx12, PySem.W.mg_of X G ax13, kx13, PySem.W.mg_of X G ax14, kx14, PySem.W.mg_of X G ax15, kx15, PySem.W.mg_of X G ax16, kx16, PySem.W.mg_of X G ax17, kx17, PySem.W.mg_of X G ax18, kx18⟩
  obtain ⟨_, Fx0⟩ := Fx0
  obtain ⟨_, Fx1⟩ := Fx1
  obtain ⟨_, Fx2⟩ := Fx2
  obtain ⟨_, Fx3⟩ := Fx3
  obtain ⟨_, Fx4⟩ := Fx4
  obtain ⟨_, Fx5⟩ := Fx5
  obtain ⟨_, Fx6⟩ := Fx6
  obtain ⟨_, Fx7⟩ := Fx7
  obtain ⟨_, Fx8⟩ := Fx8
  obtain ⟨_, Fx9⟩ := Fx9
  obtain ⟨_, Fx10⟩ := Fx10
  obtain ⟨_, Fx11⟩ := Fx11
  obtain ⟨_, Fx12⟩ := Fx12
  obtain ⟨_, Fx13⟩ := Fx13
  obtain ⟨_, Fx14⟩ := Fx14
  obtain ⟨_, Fx15⟩ := Fx15
  obtain ⟨_, Fx16⟩ := Fx16
  obtain ⟨_, Fx17⟩ := Fx17
  have Fx18 := Zbc (st := Zd9) lx18 cx18 kx18
  have bx0 := Fx0.binds (ps := ["_law_cell"]) fun _ _ _ _ _ _ us hl => of1 (fun _ => rfl) us hl
  have bx1 := Fx1.binds (ps := ["text", "place"]) fun _ _ _ _ _ _ us hl => of2 (fun _ _ => rfl) us hl
  have bx2 := Fx2.binds (ps := ["text", "place"]) fun _ _ _ _ _ _ us hl => of2 (fun _ _ => rfl) us hl
  have bx3 := Fx3.binds (ps := ["text"]) fun _ _ _ _ _ _ us hl => of1 (fun _ => rfl) us hl
  have bx4 := Fx4.binds (ps := ["levels"]) fun _ _ _ _ _ _ us hl => of1 (fun _ => rfl) us hl
  have bx5 := Fx5.binds (ps := ["levels"]) fun _ _ _ _ _ _ us hl => of1 (fun _ => rfl) us hl
  have bx6 := Fx6.binds (ps := ["text", "signs"]) fun _ _ _ _ _ _ us hl => of2 (fun _ _ => rfl) us hl
  have bx7 := Fx7.binds (ps := ["value", "signs", "most"]) fun _ _ _ _ _ _ us hl => of3 (fun _ _ _ => rfl) us hl
  have bx8 := Fx8.binds (ps := ["value"]) fun _ _ _ _ _ _ us hl => of1 (fun _ => rfl) us hl
  have bx9 := Fx9.binds (ps := ["name"]) fun _ _ _ _ _ _ us hl => of1 (fun _ => rfl) us hl
  have bx10 := Fx10.binds (ps := ["words"]) fun _ _ _ _ _ _ us hl => of1 (fun _ => rfl) us hl
  have bx11 := Fx11.binds (ps := ["cut"]) fun _ _ _ _ _ _ us hl => of1 (fun _ => rfl) us hl
  have bx12 := Fx12.binds (ps := ["text"]) fun _ _ _ _ _ _ us hl => of1 (fun _ => rfl) us hl
  have bx13 := Fx13.binds (ps := ["_law_thing"]) fun _ _ _ _ _ _ us hl => of1 (fun _ => rfl) us hl
  have bx14 := Fx14.binds (ps := ["piece"]) fun _ _ _ _ _ _ us hl => of1 (fun _ => rfl) us hl
  have bx15 := Fx15.binds (ps := ["T"]) fun _ _ _ _ _ _ us hl => of1 (fun _ => rfl) us hl
  have bx16 := Fx16.binds (ps := ["_law_script", "_law_k"]) fun _ _ _ _ _ _ us hl => of2 (fun _ _ => rfl) us hl
  have bx17 := Fx17.binds (ps := ["_law_text_here", "_law_cell"]) fun _ _ _ _ _ _ us hl => of2 (fun _ _ => rfl) us hl
  refine ⟨PySem.W.fnOf "law" "law" (Zef Zd9) (Zbs Zd9) (Zi Zd9) .none kVx18 dcx18 pmx18 anx18 cdx18 ctx18, fun s v => .of_eq rfl, fun base kb nb => ?_⟩
  have Gx0 := Zjc (P := l.prog) (w := w) (base := base) T Fx0
  have Gx1 := Zih (P := l.prog) (w := w) (base := base) T Fx1
  have Gx2 := Zlh (P := l.prog) (w := w) (base := base) T Fx2 (Zbi kb (PySem.W.mg_of kb nb zc_NoStyle) ow_NoStyle) Gx1 bx1
  have Gx3 := Zli (P := l.prog) (w := w) (base := base) T Fx3 Gx2 bx2
  have Gx4 := Zf2 (P := l.prog) (w := w) (base := base) T Fx4 (Zbi kb (PySem.W.mg_of kb nb zc_NoStyle) ow_NoStyle)
  have Gx5 := Zii (P := l.prog) (w := w) (base := base) T Fx5 (Zbi kb (PySem.W.mg_of kb nb zc_NoStyle) ow_NoStyle)
  have Gx6 := Zij (P := l.prog) (w := w) (base := base) T Fx6
  have Gx7 := Zg0 (P := l.prog) (w := w) (base := base) T Fx7 Gx6 bx6
  have Gx8 := Zlj (P := l.prog) (w := w) (base := base) T Fx8 Gx7 bx7
  have Gx9 := Zg1 (P := l.prog) (w := w) (base := base) T Fx9 (Zbi kb (PySem.W.mg_of kb nb zc_NoStyle) ow_NoStyle) Gx8 bx8
  have Gx10 := Zd0 (P := l.prog) (w := w) (base := base) T Fx10 (Zbi kb (PySem.W.mg_of kb nb zc_NoStyle) ow_NoStyle) Gx7 bx7 Gx9 bx9
  have Gx11 := Zg2 (P := l.prog) (w := w) (base := base) T Fx11 (Zbi kb (PySem.W.mg_of kb nb zc_NoStyle) ow_NoStyle) Gx9 bx9 Gx10 bx10
  have Gx12 := Ze2 (P := l.prog) (w := w) (base := base) T Fx12 (Zbi kb (PySem.W.mg_of kb nb zc_NoStyle) ow_NoStyle) Gx3 bx3 Gx4 bx4 Gx5 bx5 Gx11 bx11
  have Gx13 := Zf3 (P := l.prog) (w := w) (base := base) T Fx13 Gx12 bx12
  have Gx15 : FnOk l.prog w K mg base CX0 24 fx15 _ ["T"] (spOf K 1 Zaa) := Zcf (P := l.prog) (w := w) (base := base) T Fx14 bx14 Fx15 bx15 12
  have Gx14 : FnOk l.prog w K mg base CX0 25 fx14 _ ["piece"] (spOf K 1 Zif) := Zeb (P := l.prog) (w := w) (base := base) T (lv := 24) (by decide) Fx14 Gx15 bx15
  have Gx16 := Zf4 (P := l.prog) (w := w) (base := base) T Fx16
  have Gx17 := Zf5 (P := l.prog) (w := w) (base := base) T Fx17
  exact Zxf T Fx18 Gx0 bx0 Gx12 bx12 Gx13 bx13 Gx15 bx15 Gx16 bx16 Gx17 bx17
theorem Zxh{K:PySem.W.Frag}{H:Hp}{a:Addr}{ns:List Int}(hn:Zgw [.lst (ns.map D.int)]=some (.fz (.bl true)))(hO:Only H)(hS:SqL K H a (ns.map V.int)):spOf K 1 Zgw [.ref a] H (fun v _=>v= .bl true) fun _ _ _=>False:=by
 refine⟨H,[.lst (ns.map D.int)],.fz (.bl true),Same.refl H,.cons (.lst hS (Zjx ns)) .nil,rfl,hn,fun v H' F' ms _ _ _ _ sh _ _=>?_⟩
 cases Zb1 sh
 rfl
theorem walk{l:PySem.W.OpenLaw}{q:Program}{loose:List Str}{XP:(Str→Option Value)→Heap→Prop}{YP:World→Heap→Prop}{d:DefRec}{K:Params→PySem.W.Frag}(hn:l.most=some 63)(hdf:d.params.defaults=[])
  (hY:∀(w:World) (h:Heap),YP w h→(K w.params).In h)
  (F:∀(w:World) (mg:Str→Option Value) (fa:Addr) (h:Heap),(K w.params).In h→h.Ns mainGlobals mg→mg d.name=some (.ref fa)→
   ∃fd:FuncData,(∀(s:Shared) (u:Value),BindsTo s fd ⟨[u],[]⟩ [("_law_script",u)])∧∀base:Heap,(K w.params).In base→base.Ns mainGlobals mg→FnOk l.prog w (K w.params) mg base CX0 25 fa fd ["_law_script"] (spOf (K w.params) 1 Zgw))
  (hlaw:∀ns:List Int,ns.length≤63→Zgw [.lst (ns.map D.int)]=some (.fz (.bl true))):
  PySem.W.WalkO q loose XP YP l.row.toRowW d [] (fun f vs=>PySem.call f vs):=
 L2.Zo2 (n:=63) (k:=25) (x:="_law_script") (CX:=CX0) (sp:=fun K=>spOf K 1 Zgw) hn (by decide) hdf ⟨rfl,by decide,by decide⟩ hY F (fun _ _ _ ns hl hO hS=>Zxh (hlaw ns hl) hO hS) fun _ _ _ _ z=>z
end Gen
namespace My
open DL PySem
noncomputable abbrev STS : Str := "ABCDEFGHIJKLMNOPQRSTUVWXYZabcdefghijklmnopqrstuvwxyz0123456789 .,!?'-/()&+*=:;"
noncomputable abbrev ABC:Str:="abcdefghijklmnopqrstuvwxyz"
noncomputable def abc(c:Nat):Bool:=Nat.ble 97 c&&Nat.ble c 122
noncomputable def sts(c:Nat):Bool:=(Nat.ble 65 c&&Nat.ble c 90)||abc c|| (Nat.ble 39 c&&Nat.ble c 59)|| [32,33,38,61,63].contains c
theorem Zxi:∀c<128,inS ⟨#[c]⟩ ABC=abc c:=by decide+kernel
theorem Zq9:∀c<128,inS ⟨#[c]⟩ STS=sts c:=by decide+kernel
theorem Zra:∀c<128,inS ⟨#[c]⟩ "[]"=(c==91||c==93):=by decide+kernel
noncomputable def dg9(c:Nat):Bool:=Nat.ble 49 c&&Nat.ble c 57
noncomputable def dg3(c:Nat):Bool:=Nat.ble 48 c&&Nat.ble c 50
theorem Zxj:∀c<128,inS ⟨#[c]⟩ "123456789"=dg9 c:=by decide+kernel
theorem Zxk:∀c<128,inS ⟨#[c]⟩ "012"=dg3 c:=by decide+kernel
theorem Zto:∀c,abc c=true→97≤c∧c≤122:=fun c h=>by
 unfold abc at h
 rw[Bool.and_eq_true]at h
 exact⟨Nat.le_of_ble_eq_true h.1,Nat.le_of_ble_eq_true h.2⟩
noncomputable def Asc(l:List Nat):Prop:=∀c∈l,c<128
theorem Zik(f:Nat→Bool):∀l:List Nat,bools? (l.map fun c=>D.bl (f c))=some (l.map f)
 | []=>rfl
 |x::r=>by simp[Zik f r]
noncomputable def sgf(sg:Str)(d:D):D:=match d with
 | .str x=>.bl (inS x sg)
 |d=>d
theorem Z1j(sg:Str)(f:Nat→Bool)(l:List Nat)(hin:∀c<128,inS ⟨#[c]⟩ sg=f c)(ha:Asc l)(hl:l.length≤2000000):Gen.Zbz [.str (S l),.str sg]=some (.fz (.bl (l.all f))):=by
 have c:=Zj8 (te:=Gen.Zcs) (f:=sgf sg) (c:=some (.fz (.str sg))) (j:=1) (signs (S l)) [] (fun x hx zs=>by
  unfold signs at hx
  obtain⟨k,hk,rfl⟩:=List.mem_map.mp hx
  unfold Gen.Zcs sgf
  simp[-inS]) (by unfold signs;rw[List.length_map,Za2,Z0];simp;omega)
 rw[List.nil_append]at c
 have e:(signs (S l)).map (sgf sg)=l.map fun c=>D.bl (f c):=by
  unfold signs
  rw[List.map_map,Zad]
  refine List.map_congr_left fun k hk=>?_
  show D.bl (inS ⟨#[k]⟩ sg)=_
  rw[hin k (ha k hk)]
 rw[e]at c
 have s:=Zik f l
 have sa:(l.map f).all id=l.all f:=by simp
 unfold Gen.Zbz Gen.Zdy
 simp[c,s]
theorem Znv(sg:Str)(f:Nat→Bool)(l:List Nat)(m:Nat)(hin:∀c<128,inS ⟨#[c]⟩ sg=f c)(ha:Asc l)(hl:l.length≤100000):Gen.Zaj [.str (S l),.str sg,.int (m:Int)]=some (.fz (.bl (decide (1≤l.length∧l.length≤m)&&l.all f))):=by
 have a:=Z1j sg f l hin ha (by omega)
 have z:(S l).length≤PySem.sizeLine:=Zh (by rw[Z0];omega)
 rw[Z0]at z
 generalize l.all f=b at*
 unfold Gen.Zaj Gen.Zdc
 by_cases h1:1≤l.length
 ·by_cases h2:l.length≤m
  ·have a1:(1:Int)≤(l.length:Int):=by omega
   have a2:(l.length:Int)≤(m:Int):=by omega
   simp[Z0,z,a1,a2,h1,h2,a]
  ·have a1:(1:Int)≤(l.length:Int):=by omega
   have a2:¬(l.length:Int)≤(m:Int):=by omega
   simp[Z0,z,a1,a2,h1,h2,a]
 ·have a1:¬(1:Int)≤(l.length:Int):=by omega
  simp[Z0,z,a1,h1,a]
noncomputable def Nam(l:List Nat):Prop:=1≤l.length∧l.length≤8∧l.all abc=true∧l≠[110,111,116,101]
theorem Nam.no{l:List Nat}(h:Nam l)(c:Nat)(hc:c<97∨122<c):c∉l:=fun hm=>by
 have:=Zto c (List.all_eq_true.mp h.2.2.1 c hm);omega
theorem Zrb:Str.ofString "note"=S [110,111,116,101]:=by decide+kernel
noncomputable abbrev NS:Exn:=⟨"NoStyle",[],[]⟩
theorem Ztp{l:List Nat}(ha:Asc l)(hl:l.length≤20000):Gen.Zdd [.str (S l)]=some (.fz (.bl (decide (1≤l.length∧l.length≤8)&&l.all abc))):=by
 have a:=Znv ABC abc l 8 Zxi ha (by omega)
 have i8:((8:Nat):Int)=8:=rfl
 rw[i8]at a
 unfold Gen.Zdd Gen.Zfs
 simp[a]
theorem Zil{l:List Nat}(ha:Asc l)(hl:l.length≤20000):(Nam l∧Gen.Z3 [.str (S l)]=some (.v (.fz .non)))∨(¬Nam l∧Gen.Z3 [.str (S l)]=some (.x NS)):=by
 have a:=Ztp ha hl
 by_cases hn:S l=S [110,111,116,101]
 ·refine .inr ⟨fun h=>h.2.2.2 (Zgu hn),?_⟩
  generalize (decide (1≤l.length∧l.length≤8)&&l.all abc)=b at a
  rw[hn]at a⊢
  unfold Gen.Z3 Gen.Zbm
  cases b<;> simp[a,Zrb]
 ·cases hb:(decide (1≤l.length∧l.length≤8)&&l.all abc)with
  |true=>
   rw[hb]at a
   have h:=Bool.and_eq_true_iff.mp hb
   have h1:=of_decide_eq_true h.1
   refine .inl ⟨⟨h1.1,h1.2,h.2,fun z=>hn (by rw[z])⟩,?_⟩
   unfold Gen.Z3 Gen.Zbm
   simp[a,Zrb,hn]
  |false=>
   rw[hb]at a
   refine .inr ⟨fun h=>?_,?_⟩
   ·rw[h.2.2.1,decide_eq_true ⟨h.1,h.2.1⟩]at hb;cases hb
   ·unfold Gen.Z3 Gen.Zbm
    simp[a]
open PySem.StrLaws in
theorem Ztq(pre l r:List Nat)(c:Nat)(hc:c∉l):Txt.find3 (S (pre++(l++c::r))) (S [c]) (pre.length:Int)=((pre.length+l.length:Nat):Int):=by
 have hL:(S (pre++(l++c::r))).length=pre.length+(l.length+(r.length+1)):=by rw[Z0];simp
 have hf:fromIndex (S (pre++(l++c::r))).length (pre.length:Int)=pre.length:=by
  unfold fromIndex
  rw[if_neg (by omega)]
  omega
 have at1:∀i,At (S (pre++(l++c::r))) (S [c]) (S (pre++(l++c::r))).length i↔(pre++(l++c::r))[i]? =some c:=fun i=>by
  rw[Zd8,Zad,Zad]
  unfold Zfr
  constructor
  ·rintro⟨h1,h2⟩
   have h1:i<(pre++(l++c::r)).length:=h1
   rw[List.drop_eq_getElem_cons h1]at h2
   have h2:[(pre++(l++c::r))[i]]=[c]:=h2
   rw[List.getElem?_eq_getElem h1]
   injection h2 with h2 _
   rw[h2]
  ·intro h
   obtain⟨h1,h2⟩:=List.getElem?_eq_some_iff.mp h
   refine⟨h1,?_⟩
   rw[List.drop_eq_getElem_cons h1,h2]
   rfl
 have here:(pre++(l++c::r))[pre.length+l.length]? =some c:=by
  rw[List.getElem?_append_right (by omega),List.getElem?_append_right (by omega)]
  simp
 have no:∀i,pre.length≤i→i<pre.length+l.length→(pre++(l++c::r))[i]?≠some c:=fun i h1 h2 e=>by
  rw[List.getElem?_append_right h1,List.getElem?_append_left (by omega)]at e
  exact hc (List.mem_of_getElem? e)
 unfold Txt.find3
 rw[hf,StrLaws.occ_eq]
 rcases occ_first (S (pre++(l++c::r))) (S [c]) (S (pre++(l++c::r))).length 1 (Nat.le_refl _) (List.range' pre.length ((S (pre++(l++c::r))).length+1- pre.length)) pre.length (fun i hi=>(List.mem_range'_1.mp hi).1)with⟨_,h2⟩|⟨p1,a,p2,h1,h2,h3,h4⟩
 ·exact absurd ((at1 _).mpr here) (h2 _ (List.mem_range'_1.mpr ⟨by omega,by omega⟩))
 ·have ha:a=pre.length+l.length:=by
   have hm:a∈List.range' pre.length ((S (pre++(l++c::r))).length+1- pre.length):=by rw[h1];exact List.mem_append_right _ List.mem_cons_self
   have hge:=(List.mem_range'_1.mp hm).1
   have h3':=(at1 a).mp h3
   by_cases hlt:a<pre.length+l.length
   ·exact absurd h3' (no a hge hlt)
   ·by_cases hgt:pre.length+l.length<a
    ·exfalso
     have hmem:pre.length+l.length∈p1++a::p2:=by rw[←h1];exact List.mem_range'_1.mpr ⟨by omega,by rw[hL];omega⟩
     have srt:(p1++a::p2).Pairwise (· < ·):=by rw[←h1];exact List.pairwise_lt_range'
     rcases List.mem_append.mp hmem with z|z
     ·exact h4 _ z ((at1 _).mpr here)
     ·rcases List.mem_cons.mp z with z|z
      ·omega
      ·have:=List.rel_of_pairwise_cons (List.pairwise_append.mp srt).2.1 z
       omega
    ·omega
  subst ha
  generalize (forIn (List.range' pre.length ((S (pre++(l++c::r))).length+1- pre.length)) ((#[]:Array Nat),pre.length) (occBody (S (pre++(l++c::r))) (S [c]) (S (pre++(l++c::r))).length 1)).run.fst=arr at*
  have h2':arr.toList[0]? =some (pre.length+l.length):=by rw[Array.getElem?_toList];exact h2
  cases hal:arr.toList with
  |nil=>rw[hal]at h2';cases h2'
  |cons x xs=>rw[hal]at h2';simp at h2';subst h2';rfl
open PySem.StrLaws in
theorem Ztr(pre r:List Nat)(c:Nat)(hc:c∉r):Txt.find3 (S (pre++r)) (S [c]) (pre.length:Int)=-1:=by
 have hL:(S (pre++r)).length=pre.length+r.length:=by rw[Z0];simp
 have hf:fromIndex (S (pre++r)).length (pre.length:Int)=pre.length:=by
  unfold fromIndex
  rw[if_neg (by omega)]
  omega
 have no:∀i,pre.length≤i→¬At (S (pre++r)) (S [c]) (S (pre++r)).length i:=fun i hi h=>by
  rw[Zd8,Zad,Zad]at h
  obtain⟨h1,h2⟩:=h
  have h1:i<(pre++r).length:=h1
  rw[List.drop_eq_getElem_cons h1]at h2
  have h2:[(pre++r)[i]]=[c]:=h2
  injection h2 with h2 _
  have e:(pre++r)[i]? =some c:=by rw[List.getElem?_eq_getElem h1,h2]
  rw[List.getElem?_append_right hi]at e
  exact hc (List.mem_of_getElem? e)
 unfold Txt.find3
 rw[hf,StrLaws.occ_eq]
 rcases occ_first (S (pre++r)) (S [c]) (S (pre++r)).length 1 (Nat.le_refl _) (List.range' pre.length ((S (pre++r)).length+1- pre.length)) pre.length (fun i hi=>(List.mem_range'_1.mp hi).1)with⟨h1,h2⟩|⟨p1,a,p2,h1,h2,h3,h4⟩
 ·rw[h1]
 ·have hm:a∈List.range' pre.length ((S (pre++r)).length+1- pre.length):=by rw[h1];exact List.mem_append_right _ List.mem_cons_self
  exact absurd h3 (no a (List.mem_range'_1.mp hm).1)
theorem Zfu(pre t r:List Nat):Txt.slice (S (pre++(t++r))) (some (pre.length:Int)) (some ((pre.length+t.length:Nat):Int))=S t:=by
 refine(StrLaws.sliceText_plain ⟨by omega,by omega,by rw[Zad];simp;omega⟩).trans ?_
 rw[Zad,Int.toNat_natCast,show(((pre.length+t.length:Nat):Int)- (pre.length:Int)).toNat=t.length by omega,List.drop_left,List.take_left]
theorem Zp5(a b:Nat)(l:List Nat):Txt.slice (S (a::(l++[b]))) (some 1) (some (-1))=S l:=by
 have hl:(S (a::(l++[b]))).length=l.length+2:=by rw[Z0];simp
 have e:Txt.slice (S (a::(l++[b]))) (some 1) (some (-1))=Txt.slice (S (a::(l++[b]))) (some 1) (some (-1+((S (a::(l++[b]))).length:Int))):=StrLaws.sliceText_neg_hi _ _ (by decide) (by rw[hl];omega)
 rw[e,hl]
 have:=Zfu [a] l [b]
 have e2:(-1+((l.length+2:Nat):Int))=(([a].length+l.length:Nat):Int):=by simp;omega
 rw[e2]
 exact this
end My
namespace My
open DL PySem
inductive Tk where
 |op|cl|sg (l:List Nat)|br (l:List Nat)
noncomputable def Tk.l:Tk→List Nat
 | .op=>[91]
 | .cl=>[93]
 | .sg l=>l
 | .br l=>123::(l++[125])
noncomputable def Tk.isSg:Tk→Bool
 | .sg _=>true
 |_=>false
noncomputable def Tk.ok:Tk→Prop
 | .sg l=>l≠[]∧l.length≤15000∧∀c∈l,c<128∧sts c=true
 | .br l=>125∉l∧l.length≤15000
 |_=>True
noncomputable def Gd:Bool→List Tk→Prop
 |_,[]=>True
 |p,t::r=>t.ok∧¬(p=true∧t.isSg=true)∧Gd t.isSg r
noncomputable def flat(ts:List Tk):List Nat:=ts.flatMap Tk.l
theorem Zdg(t:Tk)(ts:List Tk):flat (t::ts)=t.l++flat ts:=rfl
theorem Zb5(a b:List Tk):flat (a++b)=flat a++flat b:=List.flatMap_append
theorem Zcv:sts 91=false∧sts 93=false∧sts 123=false:=by decide
theorem Tk.first(t:Tk)(h:t.ok):∃c r,t.l=c::r∧c<128∧(t.isSg=false→sts c=false)∧(t.isSg=true→sts c=true):=by
 cases t with
 |op=>exact⟨91,[],rfl,by decide,fun _=>Zcv.1,fun z=>nomatch z⟩
 |cl=>exact⟨93,[],rfl,by decide,fun _=>Zcv.2.1,fun z=>nomatch z⟩
 |br l=>exact⟨123,l++[125],rfl,by decide,fun _=>Zcv.2.2,fun z=>nomatch z⟩
 |sg l=>
  cases l with
  |nil=>exact absurd rfl h.1
  |cons c r=>exact⟨c,r,rfl,(h.2.2 c List.mem_cons_self).1,(fun z=>nomatch z),fun _=>(h.2.2 c List.mem_cons_self).2⟩
theorem Zkf{α:Type}(pre:List α)(c:α)(r:List α):L2.atI (pre++c::r) (pre.length:Int)=some c:=Zga _ _ _ (by rw[List.getElem?_append_right (Nat.le_refl _),Nat.sub_self];rfl)
theorem Zgc{L:List Nat}(hL:L.length≤100000)(a:Option SV):∀(l pre rest:List Nat) (n:Nat),L=pre++(l++rest)→(∀c∈l,c<128∧sts c=true)→(rest=[]∨∃c r,rest=c::r∧c<128∧sts c=false)→l.length<n→
  Zbk Gen.Zbd Gen.Zcr n [some (.fz (.str (S L))),a,some (.fz (.int (pre.length:Int)))]=some (.nx [some (.fz (.str (S L))),a,some (.fz (.int ((pre.length+l.length:Nat):Int)))])
 | [],pre,rest,0,_,_,_,h=>by simp at h
 | [],pre,rest,n+1,e,_,hr,_=>by
  have z:L.length≤PySem.sizeLine:=Zh (by omega)
  refine Zel ?_
  rcases hr with h|⟨c,r,h,h1,h2⟩
  ·subst h
   have e':L=pre:=by rw[e];simp
   subst e'
   unfold Gen.Zbd
   simp[Z0,z]
  ·subst h
   have hi:=Zq9 c h1
   rw[h2]at hi
   have at':L2.atI L (pre.length:Int)=some c:=by rw[e];exact Zkf pre c r
   have lt:(pre.length:Int)<(L.length:Int):=by rw[e];simp;omega
   unfold Gen.Zbd
   simp[-inS,Z0,Zad,z,at',lt,hi]
 |c::l,pre,rest,0,_,_,_,h=>by simp at h
 |c::l,pre,rest,n+1,e,hc,hr,hn=>by
  have z:L.length≤PySem.sizeLine:=Zh (by omega)
  obtain⟨h1,h2⟩:=hc c List.mem_cons_self
  have hi:=Zq9 c h1
  rw[h2]at hi
  have at':L2.atI L (pre.length:Int)=some c:=by rw[e];exact Zkf pre c _
  have lt:(pre.length:Int)<(L.length:Int):=by rw[e];simp;omega
  have ih:=Zgc hL a l (pre++[c]) rest n (by rw[e];simp) (fun d hd=>hc d (List.mem_cons_of_mem _ hd)) hr (by simpa using hn)
  have el:((pre++[c]).length:Int)=(pre.length:Int)+1:=by simp
  have el2:(pre++[c]).length+l.length=pre.length+(c::l).length:=by simp;omega
  rw[el,el2]at ih
  refine(Zfq (δ1:=[some (.fz (.str (S L))),a,some (.fz (.int (pre.length:Int)))]) (δ2:=[some (.fz (.str (S L))),a,some (.fz (.int ((pre.length:Int)+1)))]) ?_ ?_).trans ih
  ·unfold Gen.Zbd
   simp[-inS,Z0,Zad,z,at',lt,hi]
  ·unfold Gen.Zcr
   simp
theorem Zkg{L l pre rest:List Nat}(hL:L.length≤100000)(e:L=pre++(l++rest))(hc:∀c∈l,c<128∧sts c=true)(hr:rest=[]∨∃c r,rest=c::r∧c<128∧sts c=false)(hl:l.length≤15000):
  Gen.Za7 [.str (S L),.int (pre.length:Int)]=some (.fz (.int ((pre.length+l.length:Nat):Int))):=by
 have w:=Zgc hL (some (.fz (.int (pre.length:Int)))) l pre rest 20000 e hc hr (by omega)
 unfold Gen.Za7 Gen.Zdx
 simp[-Int.natCast_add,w]
theorem Zrc{L pre rest:List Nat}(t:Tk)(hL:L.length≤100000)(e:L=pre++(t.l++rest))(ht:t.ok)(hr:t.isSg=true→rest=[]∨∃c r,rest=c::r∧c<128∧sts c=false):
  Gen.Zbl [.str (S L),.int (pre.length:Int)]=some (.v (.fz (.int ((pre.length+t.l.length:Nat):Int)))):=by
 have z:L.length≤PySem.sizeLine:=Zh (by omega)
 have ob:Str.ofString "{"=S [123]:=by decide+kernel
 have cb:Str.ofString "}"=S [125]:=by decide+kernel
 obtain⟨c,r,ec,hc,f1,f2⟩:=t.first ht
 have at':L2.atI L (pre.length:Int)=some c:=by rw[e,ec];exact Zkf pre c _
 have hin:=Zra c hc
 have hbr:Str.ofString "[]"="[]":=rfl
 unfold Gen.Zbl Gen.Zea
 cases t with
 |op=>
  injection ec with ec _
  subst ec
  have hin:inS ⟨#[91]⟩ "[]"=true:=hin
  have e2:(((pre.length+Tk.op.l.length:Nat)):Int)=(pre.length:Int)+1:=by show((pre.length+1:Nat):Int)=_;omega
  rw[e2]
  simp[-inS,Z0,Zad,z,at',hin]
 |cl=>
  injection ec with ec _
  subst ec
  have hin:inS ⟨#[93]⟩ "[]"=true:=hin
  have e2:(((pre.length+Tk.cl.l.length:Nat)):Int)=(pre.length:Int)+1:=by show((pre.length+1:Nat):Int)=_;omega
  rw[e2]
  simp[-inS,Z0,Zad,z,at',hin]
 |br l=>
  injection ec with ec _
  subst ec
  have hin:inS ⟨#[123]⟩ "[]"=false:=hin
  have hf:=Ztq pre (123::l) rest 125 (by
   intro h
   rcases List.mem_cons.mp h with h|h
   ·exact absurd h (by decide)
   ·exact ht.1 h)
  have el:pre++(123::l++125::rest)=L:=by rw[e];show _=pre++(123::(l++[125])++rest);simp
  rw[el]at hf
  have e2:(((pre.length+(Tk.br l).l.length:Nat)):Int)=((pre.length+(123::l).length:Nat):Int)+1:=by unfold Tk.l;simp;omega
  rw[e2]
  have gt:¬((pre.length+(123::l).length:Nat):Int)+1≤(pre.length:Int):=by omega
  generalize ((pre.length+(123::l).length:Nat):Int)=P at*
  simp[-inS,Z0,Zad,z,at',hin,ob,cb,hf,gt]
 |sg l=>
  have s:=Zkg hL e ht.2.2 (hr rfl) ht.2.1
  have hs:sts c=true:=f2 rfl
  have n91:(c==91||c==93)=false:=by
   have h1:c≠91:=fun z=>by rw[z,Zcv.1]at hs;cases hs
   have h2:c≠93:=fun z=>by rw[z,Zcv.2.1]at hs;cases hs
   simp[h1,h2]
  rw[n91]at hin
  have n123:¬(⟨#[c]⟩:Str)=S [123]:=fun z=>by
   have:=Zgu (a:=[c]) z
   injection this with this _
   rw[this,Zcv.2.2]at hs;cases hs
  have hne:1≤l.length:=List.length_pos_iff.mpr ht.1
  have gt:¬((pre.length+(Tk.sg l).l.length:Nat):Int)≤(pre.length:Int):=by show¬((pre.length+l.length:Nat):Int)≤_;omega
  have s:Gen.Za7 [.str (S L),.int (pre.length:Int)]=some (.fz (.int ((pre.length+(Tk.sg l).l.length:Nat):Int))):=s
  generalize ((pre.length+(Tk.sg l).l.length:Nat):Int)=P at*
  simp[-inS,Z0,Zad,z,at',hin,ob,n123,s,gt]
theorem Z1k{L pre rest:List Nat}{c:Nat}(hL:L.length≤100000)(e:L=pre++c::rest)(hc:c<128)(h1:c≠91)(h2:c≠93)(h:(c=123∧125∉rest)∨(c≠123∧sts c=false)):Gen.Zbl [.str (S L),.int (pre.length:Int)]=some (.x NS):=by
 have z:L.length≤PySem.sizeLine:=Zh (by omega)
 have ob:Str.ofString "{"=S [123]:=by decide+kernel
 have cb:Str.ofString "}"=S [125]:=by decide+kernel
 have at':L2.atI L (pre.length:Int)=some c:=by rw[e];exact Zkf pre c _
 have hin:=Zra c hc
 have n91:(c==91||c==93)=false:=by simp[h1,h2]
 rw[n91]at hin
 unfold Gen.Zbl Gen.Zea
 rcases h with⟨rfl,hn⟩|⟨hn,hs⟩
 ·have hf:=Ztr pre (123::rest) 125 (by
   intro h
   rcases List.mem_cons.mp h with h|h
   ·exact absurd h (by decide)
   ·exact hn h)
  rw[←e]at hf
  have s123:(⟨#[123]⟩:Str)=S [123]:=rfl
  have le:(0:Int)≤(pre.length:Int):=by omega
  simp[-inS,Z0,Zad,z,at',hin,ob,cb,hf,s123,le]
 ·have n123:¬(⟨#[c]⟩:Str)=S [123]:=fun z=>by
   have:=Zgu (a:=[c]) z
   injection this with this _
   exact hn this
  have s:=Zkg (L:=L) (l:=[]) (pre:=pre) (rest:=c::rest) hL (by rw[e];rfl) (fun _ h=>nomatch h) (.inr ⟨c,rest,rfl,hc,hs⟩) (by simp)
  have s:Gen.Za7 [.str (S L),.int (pre.length:Int)]=some (.fz (.int (pre.length:Int))):=s
  simp[-inS,Z0,Zad,z,at',hin,ob,n123,s]
theorem Zkh:∀R:List Nat,Asc R→∃l rest,R=l++rest∧(∀c∈l,c<128∧sts c=true)∧(rest=[]∨∃c r,rest=c::r∧c<128∧sts c=false)
 | [],_=>⟨[],[],rfl,(fun _ h=>nomatch h),.inl rfl⟩
 |c::R,ha=>by
  have hc:=ha c List.mem_cons_self
  cases hs:sts c with
  |false=>exact⟨[],c::R,rfl,(fun _ h=>nomatch h),.inr ⟨c,R,rfl,hc,hs⟩⟩
  |true=>
   obtain⟨l,rest,e,h1,h2⟩:=Zkh R fun d hd=>ha d (List.mem_cons_of_mem _ hd)
   refine⟨c::l,rest,by rw[e];rfl,fun d hd=>?_,h2⟩
   rcases List.mem_cons.mp hd with z|z
   ·rw[z];exact⟨hc,hs⟩
   ·exact h1 d z
theorem Znw(b:Nat):∀R:List Nat,b∈R→∃l rest,R=l++b::rest∧b∉l
 | [],h=>nomatch h
 |c::R,h=>by
  by_cases e:c=b
  ·subst e;exact⟨[],R,rfl,fun h=>nomatch h⟩
  ·obtain⟨l,rest,e1,e2⟩:=Znw b R ((List.mem_cons.mp h).resolve_left (Ne.symm e))
   refine⟨c::l,rest,by rw[e1];rfl,fun z=>?_⟩
   rcases List.mem_cons.mp z with z|z
   ·exact e z.symm
   ·exact e2 z
theorem Zlk{t:Tk}{ts:List Tk}(h:Gd t.isSg ts)(ht:t.isSg=true):flat ts=[]∨∃c r,flat ts=c::r∧c<128∧sts c=false:=by
 cases ts with
 |nil=>exact .inl rfl
 |cons u us=>
  obtain⟨h1,h2,_⟩:=h
  have hu:u.isSg=false:=by
   cases hz:u.isSg with
   |false=>rfl
   |true=>exact absurd ⟨ht,hz⟩ h2
  obtain⟨c,r,ec,hc,f1,_⟩:=u.first h1
  exact .inr ⟨c,r++flat us,by rw[Zdg,ec];rfl,hc,f1 hu⟩
theorem Znx{t:FT}{b:FS}{n:Nat}{δ δ1 δ2:DSt}{x:Exn}(h1:t δ=some (true,δ1))(h2:b δ1=some (.ex x δ2)):Zbk t b (n+1) δ=some (.ex x δ2):=by
 unfold Zbk
 rw[h1]
 simp[h2]
theorem Zp6{R:List Nat}(ha:Asc R)(hR:R.length≤15000)(h0:R≠[]):(∃t rest,R=Tk.l t++rest∧t.ok∧(t.isSg=true→rest=[]∨∃c r,rest=c::r∧c<128∧sts c=false))∨∃c r,R=c::r∧c<128∧c≠91∧c≠93∧((c=123∧125∉r)∨(c≠123∧sts c=false)):=by
 cases R with
 |nil=>exact absurd rfl h0
 |cons c r=>
  have hc:=ha c List.mem_cons_self
  by_cases h1:c=91
  ·subst h1;exact .inl ⟨.op,r,rfl,trivial,fun z=>nomatch z⟩
  by_cases h2:c=93
  ·subst h2;exact .inl ⟨.cl,r,rfl,trivial,fun z=>nomatch z⟩
  by_cases h3:c=123
  ·subst h3
   by_cases h4:125∈r
   ·obtain⟨l,rest,e,hn⟩:=Znw 125 r h4
    refine .inl ⟨.br l,rest,?_,⟨hn,?_⟩,fun z=>nomatch z⟩
    ·rw[e];show _=123::(l++[125])++rest;simp
    ·rw[e]at hR;simp at hR;omega
   ·exact .inr ⟨123,r,rfl,hc,h1,h2,.inl ⟨rfl,h4⟩⟩
  ·cases hs:sts c with
   |false=>exact .inr ⟨c,r,rfl,hc,h1,h2,.inr ⟨h3,hs⟩⟩
   |true=>
    obtain⟨l,rest,e,q1,q2⟩:=Zkh (c::r) ha
    have hl:l≠[]:=fun z=>by
     subst z
     rw[List.nil_append]at e
     rcases q2 with q|⟨d,s,q,_,q3⟩
     ·rw[q]at e;cases e
     ·rw[q]at e;cases e;rw[hs]at q3;cases q3
    refine .inl ⟨.sg l,rest,e,⟨hl,?_,q1⟩,fun _=>q2⟩
    have:=congrArg List.length e
    rw[List.length_append]at this
    omega
theorem Zki{L:List Nat}(hL:L.length≤15000):∀(n:Nat) (R:List Nat) (p:Bool) (pre:List Nat) (cs:List D) (x:Option SV),L=pre++R→Asc R→(p=true→R=[]∨∃c r,R=c::r∧c<128∧sts c=false)→R.length<n→cs.length+R.length≤20000→
  (∃δ,Zbk Gen.Zae Gen.Zam n [some (.fz (.str (S L))),some (.ol cs),some (.fz (.int (pre.length:Int))),x]=some (.ex NS δ))∨∃ts x',flat ts=R∧Gd p ts∧ts.length≤R.length∧Zbk Gen.Zae Gen.Zam n [some (.fz (.str (S L))),some (.ol cs),some (.fz (.int (pre.length:Int))),x]=some (.nx [some (.fz (.str (S L))),some (.ol (cs++ts.map fun t=>D.str (S t.l))),some (.fz (.int (L.length:Int))),x'])
 |0,_,_,_,_,_,_,_,_,h,_=>by omega
 |n+1,R,p,pre,cs,x,e,ha,hp,hn,hc=>by
  have z:L.length≤PySem.sizeLine:=Zh (by omega)
  have hRL:R.length≤15000:=by rw[e,List.length_append]at hL;omega
  by_cases h0:R=[]
  ·subst h0
   have e':L=pre:=by rw[e,List.append_nil]
   refine .inr ⟨[],x,rfl,trivial,Nat.le_refl _,?_⟩
   rw[List.map_nil,List.append_nil,←e']
   refine Zel ?_
   unfold Gen.Zae
   simp[Z0,z]
  have lt:(pre.length:Int)<(L.length:Int):=by
   have:=List.length_pos_iff.mpr h0
   rw[e,List.length_append];omega
  have tt:Gen.Zae [some (.fz (.str (S L))),some (.ol cs),some (.fz (.int (pre.length:Int))),x]=some (true,[some (.fz (.str (S L))),some (.ol cs),some (.fz (.int (pre.length:Int))),x]):=by
   unfold Gen.Zae
   simp[Z0,z,lt]
  rcases Zp6 ha hRL h0 with⟨t,rest,er,ht,hr⟩|⟨c,r,er,q1,q2,q3,q4⟩
  ·have e0:L=pre++(t.l++rest):=by rw[e,er]
   have ce:=Zrc (L:=L) (pre:=pre) (rest:=rest) t (by omega) e0 ht hr
   have sm:=Zfu pre t.l rest
   rw[←e0]at sm
   obtain⟨c,r,ec,_,f1,f2⟩:=t.first ht
   have tl:1≤t.l.length:=by rw[ec];simp
   have rl:R.length=t.l.length+rest.length:=by rw[er,List.length_append]
   have hpt:¬(p=true∧t.isSg=true):=fun⟨z1,z2⟩=>by
    rcases hp z1 with q|⟨d,s,q,_,q3⟩
    ·exact h0 q
    ·rw[er,ec]at q
     injection q with q _
     rw[←q,f2 z2]at q3;cases q3
   have zc:cs.length<PySem.sizeLine:=Zdu (by omega)
   have hb:Gen.Zam [some (.fz (.str (S L))),some (.ol cs),some (.fz (.int (pre.length:Int))),x]=some (.nx [some (.fz (.str (S L))),some (.ol (cs++[.str (S t.l)])),some (.fz (.int ((pre.length+t.l.length:Nat):Int))),some (.fz (.int ((pre.length+t.l.length:Nat):Int)))]):=by
    generalize ((pre.length+t.l.length:Nat):Int)=P at*
    unfold Gen.Zam
    simp[Z0,z,ce,sm,zc]
   rw[Zfq tt hb]
   have el:((pre.length+t.l.length:Nat):Int)=((pre++t.l).length:Int):=by rw[List.length_append]
   rw[el]
   rcases Zki hL n rest t.isSg (pre++t.l) (cs++[.str (S t.l)]) (some (.fz (.int ((pre++t.l).length:Int)))) (by rw[e0,List.append_assoc]) (fun d hd=>ha d (by rw[er];exact List.mem_append_right _ hd)) hr (by omega) (by rw[List.length_append,List.length_singleton];omega)with⟨δ,h⟩|⟨ts,x',a1,a2,a3,a4⟩
   ·exact .inl ⟨δ,h⟩
   ·refine .inr ⟨t::ts,x',by rw[Zdg,a1,er],⟨ht,hpt,a2⟩,by rw[List.length_cons];omega,?_⟩
    have em:cs++(t::ts).map (fun t=>D.str (S t.l))=cs++[.str (S t.l)]++ts.map (fun t=>D.str (S t.l)):=by simp
    rw[em]
    exact a4
  ·have cn:=Z1k (L:=L) (pre:=pre) (rest:=r) (c:=c) (by omega) (by rw[e,er]) q1 q2 q3 q4
   refine .inl ⟨[some (.fz (.str (S L))),some (.ol cs),some (.fz (.int (pre.length:Int))),x],Znx tt ?_⟩
   unfold Gen.Zam
   simp[cn]
theorem Zts(L:List Nat)(hL:L.length≤15000)(ha:Asc L):Gen.Zas [.str (S L)]=some (.x NS)∨∃ts,flat ts=L∧Gd false ts∧ts.length≤15000∧Gen.Zas [.str (S L)]=some (.v (.ol (ts.map fun t=>D.str (S t.l)))):=by
 have e0:(([]:List Nat).length:Int)=0:=rfl
 rcases Zki hL 20000 L false [] [] none rfl ha (fun z=>nomatch z) (by omega) (by simp;omega)with⟨δ,h⟩|⟨ts,x',a1,a2,a3,a4⟩
 ·rw[e0]at h
  refine .inl ?_
  unfold Gen.Zas Gen.Zdb
  simp[h]
 ·rw[e0,List.nil_append]at a4
  refine .inr ⟨ts,a1,a2,by omega,?_⟩
  unfold Gen.Zas Gen.Zdb
  simp[a4]
end My
namespace My
open DL PySem
noncomputable abbrev SGS:Str:="signs"
noncomputable abbrev FLD:Str:="field"
noncomputable abbrev HDS:Str:="hands"
noncomputable abbrev GRP:Str:="group"
theorem Zp7:Str.ofString "signs"=SGS:=rfl
theorem Ztt:Str.ofString "field"=FLD:=rfl
theorem Zxl:Str.ofString "hands"=HDS:=rfl
theorem Z1l:Str.ofString "group"=GRP:=rfl
theorem ob_S:Str.ofString "{"=S [123]:=by decide+kernel
theorem cb_S:Str.ofString "}"=S [125]:=by decide+kernel
theorem bl_S:Str.ofString " "=S [32]:=by decide+kernel
theorem ba_S:Str.ofString "|"=S [124]:=by decide+kernel
theorem op_S:Str.ofString "["=S [91]:=by decide+kernel
theorem cl_S:Str.ofString "]"=S [93]:=by decide+kernel
noncomputable def sgD(l:List Nat):D:=.tup [.str SGS,.str (S l)]
noncomputable def fdD(ns:List Str):D:=.tup [.str FLD,.tup (ns.map D.str)]
noncomputable def hdD(n:List Nat)(a b:Nat):D:=.tup [.str HDS,.str (S n),.int (a:Int),.int (b:Int)]
noncomputable def grD(ds:List D):D:=.tup [.str GRP,.tup ds]
noncomputable def hdL(n:List Nat)(a b:Nat):List Nat:=jl [32] [n,[48+a],[48+b]]
theorem z2:2≤PySem.sizeLine:=Zh (by decide)
theorem z4:4≤PySem.sizeLine:=Zh (by decide)
theorem Z1m{c:Nat}(h:sts c=true):¬(⟨#[c]⟩:Str)=S [123]:=fun z=>by
 have:=Zgu (a:=[c]) z
 injection this with this _
 rw[this,Zcv.2.2]at h;cases h
theorem Zrd{l:List Nat}(h:(Tk.sg l).ok):Gen.Zm [.str (S l)]=some (.v (.fz (sgD l))):=by
 obtain⟨c,r,ec,_,_,f2⟩:=(Tk.sg l).first h
 have ec:l=c::r:=ec
 have n123:=Z1m (f2 rfl)
 have z:l.length≤PySem.sizeLine:=Zh (by have:=h.2.1;omega)
 have at':L2.atI l 0=some c:=by rw[ec];exact Zga (c::r) 0 c rfl
 unfold Gen.Zm Gen.Zak sgD
 simp[Z0,Zad,z,z2,at',ob_S,n123]
theorem Zny{c:Nat}{y:List Nat}:∀ps:List (List Nat),c∈jl y ps→c∈y∨∃p∈ps,c∈p
 | [],h=>nomatch h
 | [p],h=>.inr ⟨p,List.mem_cons_self,h⟩
 |p::q::r,h=>by
  have h:c∈p++y++jl y (q::r):=h
  rcases List.mem_append.mp h with h|h
  ·rcases List.mem_append.mp h with h|h
   ·exact .inr ⟨p,List.mem_cons_self,h⟩
   ·exact .inl h
  ·rcases Zny (q::r) h with h|⟨p',h1,h2⟩
   ·exact .inl h
   ·exact .inr ⟨p',List.mem_cons_of_mem _ h1,h2⟩
theorem Zre{y:List Nat}{B:Nat}:∀ps:List (List Nat),(∀p∈ps,p.length≤B)→(jl y ps).length≤ps.length*(B+y.length)
 | [],_=>Nat.zero_le _
 | [p],h=>by
  have:=h p List.mem_cons_self
  show p.length≤_
  simp;omega
 |p::q::r,h=>by
  have h1:=h p List.mem_cons_self
  have h2:=Zre (y:=y) (B:=B) (q::r) fun x hx=>h x (List.mem_cons_of_mem _ hx)
  show(p++y++jl y (q::r)).length≤_
  rw[List.length_append,List.length_append]
  have e:(p::q::r).length*(B+y.length)=(q::r).length*(B+y.length)+(B+y.length):=by
   rw[List.length_cons,Nat.succ_mul]
  omega
theorem Ztu(l:List Nat):L2.atI (Tk.br l).l 0=some 123:=Zga (123::(l++[125])) 0 123 rfl
theorem Zfv{tg:FG}{body:FS}{d:D}{ds:List D}{δ δ1 δ2:DSt}{x:Exn}(h1:tg.run d δ=some δ1)(h2:body δ1=some (.ex x δ2)):forD tg body (d::ds) δ=some (.ex x δ2):=by
 show(tg.run d δ).bind _=_
 rw[h1]
 simp[h2]
theorem Znz(c:Nat):∀l:List Nat,∃ps:List (List Nat),ps≠[]∧(∀p∈ps,c∉p)∧jl [c] ps=l∧ps.length≤l.length+1
 | []=>⟨[[]],by simp,by simp,rfl,by simp⟩
 |a::l=>by
  obtain⟨ps,h0,h1,h2,h3⟩:=Znz c l
  cases ps with
  |nil=>exact absurd rfl h0
  |cons p r=>
   by_cases e:a=c
   ·subst e
    refine⟨[]::p::r,by simp,fun q hq=>?_,?_,by simp at h3⊢;omega⟩
    ·rcases List.mem_cons.mp hq with z|z
     ·rw[z];exact fun h=>nomatch h
     ·exact h1 q z
    ·show[]++[a]++jl [a] (p::r)=a::l
     rw[h2];rfl
   ·refine⟨(a::p)::r,by simp,fun q hq=>?_,?_,by simp at h3⊢;omega⟩
    ·rcases List.mem_cons.mp hq with z|z
     ·rw[z]
      intro h
      rcases List.mem_cons.mp h with y|y
      ·exact e y.symm
      ·exact h1 p List.mem_cons_self y
     ·exact h1 q (List.mem_cons_of_mem _ z)
    ·cases r with
     |nil=>show a::p=a::l;rw[show p=l from h2]
     |cons q r=>
      have h2:p++[c]++jl [c] (q::r)=l:=h2
      show(a::p)++[c]++jl [c] (q::r)=a::l
      rw[←h2];rfl
theorem Ztv{y:List Nat}:∀{ps:List (List Nat)} {p:List Nat},p∈ps→(∀c∈p,c∈jl y ps)∧p.length≤(jl y ps).length
 | [q],p,h=>by rw[List.mem_singleton.mp h];exact⟨fun _ h=>h,Nat.le_refl _⟩
 |q::q'::r,p,h=>by
  show(∀c∈p,c∈q++y++jl y (q'::r))∧p.length≤(q++y++jl y (q'::r)).length
  rcases List.mem_cons.mp h with z|z
  ·rw[z]
   refine⟨fun c hc=>List.mem_append_left _ (List.mem_append_left _ hc),?_⟩
   rw[List.length_append,List.length_append];omega
  ·obtain⟨a,b⟩:=Ztv (y:=y) z
   refine⟨fun c hc=>List.mem_append_right _ (a c hc),?_⟩
   rw[List.length_append];omega
theorem Zim(a b c:Option SV):∀(ns:List (List Nat)) (x:Option SV),(∀n∈ns,Asc n∧n.length≤20000)→(∃δ,forD (Zap 3) Gen.Zaq ((ns.map S).map D.str) [a,b,c,x]=some (.ex NS δ))∨((∀n∈ns,Nam n)∧∃x',forD (Zap 3) Gen.Zaq ((ns.map S).map D.str) [a,b,c,x]=some (.nx [a,b,c,x']))
 | [],x,_=>.inr ⟨(fun _ h=>nomatch h),x,rfl⟩
 |n::ns,x,h=>by
  obtain⟨h1,h2⟩:=h n List.mem_cons_self
  have run:(Zap 3).run (.str (S n)) [a,b,c,x]=some [a,b,c,some (.fz (.str (S n)))]:=by simp
  rw[List.map_cons,List.map_cons]
  rcases Zil h1 h2 with⟨hn,e⟩|⟨hn,e⟩
  ·have hb:Gen.Zaq [a,b,c,some (.fz (.str (S n)))]=some (.nx [a,b,c,some (.fz (.str (S n)))]):=by
    unfold Gen.Zaq
    simp[e]
   rcases Zim a b c ns (some (.fz (.str (S n)))) fun m hm=>h m (List.mem_cons_of_mem _ hm)with⟨δ,e'⟩|⟨hN,x',e'⟩
   ·exact .inl ⟨δ,(Zdv run hb).trans e'⟩
   ·refine .inr ⟨fun m hm=>?_,x',(Zdv run hb).trans e'⟩
    rcases List.mem_cons.mp hm with z|z
    ·rw[z];exact hn
    ·exact hN m z
  ·refine .inl ⟨[a,b,c,some (.fz (.str (S n)))],Zfv run ?_⟩
   unfold Gen.Zaq
   simp[e]
theorem Zn0:∀a<10,PySem.intText? (S [48+a])=some (a:Int):=by decide+kernel
theorem Ztw:∀c<128,dg9 c=true→∃a,1≤a∧a≤9∧c=48+a:=fun c _ h=>by
 unfold dg9 at h
 have h:=Bool.and_eq_true_iff.mp h
 have h1:=Nat.le_of_ble_eq_true h.1
 have h2:=Nat.le_of_ble_eq_true h.2
 exact⟨c- 48,by omega,by omega,by omega⟩
theorem Ztx:∀c<128,dg3 c=true→∃a,a≤2∧c=48+a:=fun c _ h=>by
 unfold dg3 at h
 have h:=Bool.and_eq_true_iff.mp h
 have h1:=Nat.le_of_ble_eq_true h.1
 have h2:=Nat.le_of_ble_eq_true h.2
 exact⟨c- 48,by omega,by omega⟩
theorem Zrf{f:Nat→Bool}{l:List Nat}(h:(decide (1≤l.length∧l.length≤1)&&l.all f)=true):∃c,l=[c]∧f c=true:=by
 have h:=Bool.and_eq_true_iff.mp h
 have h1:=of_decide_eq_true h.1
 cases l with
 |nil=>simp at h1
 |cons c r=>
  cases r with
  |nil=>exact⟨c,rfl,by simpa using h.2⟩
  |cons d r=>simp at h1
theorem Zn1{w0 w1 w2:List Nat}(a0:Asc w0)(a1:Asc w1)(a2:Asc w2)(l0:w0.length≤20000)(l1:w1.length≤20000)(l2:w2.length≤20000):Gen.Zq [.lst [.str (S w0),.str (S w1),.str (S w2)]]=some (.x NS)∨∃a b,Nam w0∧1≤a∧a≤9∧b≤2∧w1=[48+a]∧w2=[48+b]∧Gen.Zq [.lst [.str (S w0),.str (S w1),.str (S w2)]]=some (.v (.fz (hdD w0 a b))):=by
 have t1:=Znv "123456789" dg9 w1 1 Zxj a1 (by omega)
 have t2:=Znv "012" dg3 w2 1 Zxk a2 (by omega)
 have i1:((1:Nat):Int)=1:=rfl
 rw[i1]at t1 t2
 have x0:∀x y z:D,L2.atI [x,y,z] 0=some x:=fun _ _ _=>rfl
 have x1:∀x y z:D,L2.atI [x,y,z] 1=some y:=fun _ _ _=>rfl
 have x2:∀x y z:D,L2.atI [x,y,z] 2=some z:=fun _ _ _=>rfl
 rcases Zil a0 l0 with⟨hn,c⟩|⟨_,c⟩
 ·cases e1:(decide (1≤w1.length∧w1.length≤1)&&w1.all dg9)with
  |false=>
   rw[e1]at t1
   refine .inl ?_
   generalize S w1=SA at*
   generalize S w2=SB at*
   unfold Gen.Zq Gen.Z5
   simp[x0,x1,x2,c,t1]
  |true=>
   rw[e1]at t1
   cases e2:(decide (1≤w2.length∧w2.length≤1)&&w2.all dg3)with
   |false=>
    rw[e2]at t2
    refine .inl ?_
    generalize S w1=SA at*
    generalize S w2=SB at*
    unfold Gen.Zq Gen.Z5
    simp[x0,x1,x2,c,t1,t2]
   |true=>
    rw[e2]at t2
    obtain⟨c1,rfl,h1⟩:=Zrf e1
    obtain⟨c2,rfl,h2⟩:=Zrf e2
    obtain⟨a,p1,p2,rfl⟩:=Ztw c1 (a1 c1 List.mem_cons_self) h1
    obtain⟨b,p3,rfl⟩:=Ztx c2 (a2 c2 List.mem_cons_self) h2
    refine .inr ⟨a,b,hn,p1,p2,p3,rfl,rfl,?_⟩
    have g1:Zgs [.str (S [48+a])]=some (.fz (.int (a:Int))):=by unfold Zgs;dsimp only;rw[if_pos (by rw[Z0];show 1≤640;decide),Zn0 a (by omega)];rfl
    have g2:Zgs [.str (S [48+b])]=some (.fz (.int (b:Int))):=by unfold Zgs;dsimp only;rw[if_pos (by rw[Z0];show 1≤640;decide),Zn0 b (by omega)];rfl
    generalize S [48+a]=SA at*
    generalize S [48+b]=SB at*
    unfold Gen.Zq Gen.Z5 hdD
    simp[x0,x1,x2,c,t1,t2,g1,g2,z4]
 ·refine .inl ?_
  generalize S w1=SA at*
  generalize S w2=SB at*
  unfold Gen.Zq Gen.Z5
  simp[x0,x1,x2,c]
theorem Zxm{l:List Nat}(ha:Asc l)(hl:l.length≤15000):Gen.Zm [.str (S (Tk.br l).l)]=some (.x NS)∨(∃ns:List (List Nat),ns≠[]∧ns.length≤4∧(∀n∈ns,Nam n)∧l=jl [124] ns∧Gen.Zm [.str (S (Tk.br l).l)]=some (.v (.fz (fdD (ns.map S)))))∨∃n a b,Nam n∧1≤a∧a≤9∧b≤2∧l=hdL n a b∧Gen.Zm [.str (S (Tk.br l).l)]=some (.v (.fz (hdD n a b))):=by
 obtain⟨ws,w0,w1,w2,w3⟩:=Znz 32 l
 obtain⟨ns,n0,n1,n2,n3⟩:=Znz 124 l
 have sp1:Txt.split (S l) (S [32])=ws.map S:=by rw[←w2];exact Zgb _ _ (by decide) (by decide+kernel) ws (Zem ws w0 w1) (Zad _)
 have sp2:Txt.split (S l) (S [124])=ns.map S:=by rw[←n2];exact Zgb _ _ (by decide) (by decide+kernel) ns (Zem ns n0 n1) (Zad _)
 have si:Txt.slice (S (Tk.br l).l) (some 1) (some (-1))=S l:=Zp5 123 125 _
 have at':=Ztu l
 have zt:(Tk.br l).l.length≤PySem.sizeLine:=Zh (by show(123::(l++[125])).length≤_;simp;omega)
 have zl':l.length≤PySem.sizeLine:=Zh (by omega)
 have h32:¬(S [32]).length=0:=by decide+kernel
 have h124:¬(S [124]).length=0:=by decide+kernel
 have e123:(⟨#[123]⟩:Str)=S [123]:=rfl
 have ww:∀w∈ws,Asc w∧w.length≤20000:=fun w hw=>by
  obtain⟨a,b⟩:=Ztv (y:=[32]) hw
  rw[w2]at a b
  exact⟨fun c hc=>ha c (a c hc),by omega⟩
 have nn:∀w∈ns,Asc w∧w.length≤20000:=fun w hw=>by
  obtain⟨a,b⟩:=Ztv (y:=[124]) hw
  rw[n2]at a b
  exact⟨fun c hc=>ha c (a c hc),by omega⟩
 have zw:(ws.map S).length≤PySem.sizeLine:=Zh (by rw[List.length_map];omega)
 have zn:(ns.map S).length≤PySem.sizeLine:=Zh (by rw[List.length_map];omega)
 have wl:((ws.map S).length:Int)=(ws.length:Int):=by rw[List.length_map]
 have nl:((ns.map S).length:Int)=(ns.length:Int):=by rw[List.length_map]
 by_cases h3:ws.length=3
 ·match ws,h3 with
  | [u0,u1,u2],_=>
   obtain⟨b0,b1⟩:=ww u0 (by simp)
   obtain⟨c0,c1⟩:=ww u1 (by simp)
   obtain⟨d0,d1⟩:=ww u2 (by simp)
   have z3:3≤PySem.sizeLine:=Zh (by decide)
   have sp1:Txt.split (S l) (S [32])=[S u0,S u1,S u2]:=sp1
   rcases Zn1 b0 c0 d0 b1 c1 d1 with rh|⟨a,b,q1,q2,q3,q4,rfl,rfl,rh⟩
   ·refine .inl ?_
    generalize (Tk.br l).l=T at*
    generalize S u0=U0 at*
    generalize S u1=U1 at*
    generalize S u2=U2 at*
    unfold Gen.Zm Gen.Zak
    simp[Z0,Zad,zt,zl',at',ob_S,bl_S,e123,si,sp1,z3,h32,rh]
   ·refine .inr (.inr ⟨u0,a,b,q1,q2,q3,q4,w2.symm,?_⟩)
    generalize (Tk.br l).l=T at*
    generalize S u0=U0 at*
    generalize S [48+a]=U1 at*
    generalize S [48+b]=U2 at*
    unfold Gen.Zm Gen.Zak
    unfold hdD at*
    simp[Z0,Zad,zt,zl',at',ob_S,bl_S,e123,si,sp1,z3,h32,rh]
 ·have h3':¬((ws.map S).length:Int)=3:=by rw[wl];omega
  have h3'':¬(ws.map S).length=3:=by rw[List.length_map];exact h3
  by_cases h4:4<ns.length
  ·refine .inl ?_
   have g4:(4:Int)<((ns.map S).length:Int):=by rw[nl];omega
   have g4':4<(ns.map S).length:=by rw[List.length_map];exact h4
   generalize (Tk.br l).l=T at*
   generalize ws.map S=W at*
   generalize ns.map S=N at*
   unfold Gen.Zm Gen.Zak
   simp[-forD,Z0,Zad,zt,zl',at',ob_S,bl_S,ba_S,e123,si,sp1,sp2,z2,zw,zn,h32,h124,h3',h3'',g4,g4']
  ·have g4:¬(4:Int)<((ns.map S).length:Int):=by rw[nl];omega
   have g4':¬4<(ns.map S).length:=by rw[List.length_map];exact h4
   rcases Zim (some (.fz (.str (S (Tk.br l).l)))) (some (.ol ((ws.map S).map D.str))) (some (.fz (.tup ((ns.map S).map D.str)))) ns none nn with⟨δ,lp⟩|⟨hN,x',lp⟩
   ·refine .inl ?_
    generalize (Tk.br l).l=T at*
    generalize ws.map S=W at*
    generalize ns.map S=N at*
    unfold Gen.Zm Gen.Zak
    simp[-forD,Z0,Zad,zt,zl',at',ob_S,bl_S,ba_S,e123,si,sp1,sp2,z2,zw,zn,h32,h124,h3',h3'',g4,g4',lp]
   ·refine .inr (.inl ⟨ns,n0,by omega,hN,n2.symm,?_⟩)
    generalize (Tk.br l).l=T at*
    generalize ws.map S=W at*
    generalize ns.map S=N at*
    unfold Gen.Zm Gen.Zak fdD
    simp[-forD,Z0,Zad,zt,zl',at',ob_S,bl_S,ba_S,e123,si,sp1,sp2,z2,zw,zn,h32,h124,h3',h3'',g4,g4',lp]
end My
namespace My
open DL PySem
theorem Zty(a:Addr)(xss:List (List D))(h:¬xss.length≤3):Gen.Z8 a xss=some (.x NS):=by
 have g:(3:Int)<(xss.length:Int):=by omega
 have l1:=Zb4 (i:=0) (δ:=[some (.oL (some a) xss)]) (p:=some a) (xss:=xss) rfl
 unfold Gen.Z8 Gen.Zbq
 simp[Znh,l1,g]
theorem Zxn(a:Addr)(xss:List (List D))(h:xss.length≤3):Gen.Z8 a xss=some (.v (xss++[[]])):=by
 have g:¬(3:Int)<(xss.length:Int):=by omega
 have z:xss.length<PySem.sizeLine:=Zdu (by omega)
 have l1:=Zb4 (i:=0) (δ:=[some (.oL (some a) xss)]) (p:=some a) (xss:=xss) rfl
 have l2:=Zpy (i:=0) (δ:=[some (.oL (some a) xss)]) (p:=some a) (xss:=xss) rfl z
 have l2:Zi8 0 [some (.oL (some a) xss)]=some (.nx [some (.oL (some a) (xss++[[]]))]):=l2
 unfold Gen.Z8 Gen.Zbq
 simp[l1,l2,g]
theorem Z1n(a:Addr)(xs:List D):Gen.Z7 a [xs]=some (.x NS):=by
 have l1:=Zb4 (i:=0) (δ:=[some (.oL (some a) [xs]),none]) (p:=some a) (xss:=[xs]) rfl
 unfold Gen.Z7 Gen.Zby
 simp[l1]
theorem Z1o(a:Addr)(yss:List (List D))(ys:List D):Gen.Z7 a (yss++[ys]++[[]])=some (.x NS):=by
 have l1:=Zb4 (i:=0) (δ:=[some (.oL (some a) (yss++[ys]++[[]])),none]) (p:=some a) (xss:=yss++[ys]++[[]]) rfl
 have l2:Zib 1 0 [some (.oL (some a) (yss++[ys]++[[]])),none]=some (.nx [some (.oL (some a) (yss++[ys])),some (.ol [])]):=Zj6 (i:=0) (j:=1) (δ:=[some (.oL (some a) (yss++[ys]++[[]])),none]) rfl (by decide) (by show 1<2;decide)
 have g1:¬((yss++[ys]++[[]]).length:Int)=1:=by simp;omega
 generalize yss++[ys]++[[]]=W at*
 unfold Gen.Z7 Gen.Zby
 simp[l1,l2,g1]
theorem mEnd(a:Addr)(yss:List (List D))(ys xs:List D)(hx:xs≠[])(hz:xs.length≤1000)(hy:ys.length≤1000)(hl:yss.length≤1000):Gen.Z7 a (yss++[ys]++[xs])=some (.v (yss++[ys++[grD xs]])):=by
 have l1:=Zb4 (i:=0) (δ:=[some (.oL (some a) (yss++[ys]++[xs])),none]) (p:=some a) (xss:=yss++[ys]++[xs]) rfl
 have l2:Zib 1 0 [some (.oL (some a) (yss++[ys]++[xs])),none]=some (.nx [some (.oL (some a) (yss++[ys])),some (.ol xs)]):=Zj6 (i:=0) (j:=1) (δ:=[some (.oL (some a) (yss++[ys]++[xs])),none]) rfl (by decide) (by show 1<2;decide)
 have zx:xs.length≤PySem.sizeLine:=Zh (by omega)
 have l3:Zcn 0 (tupF (Zt (Za (.str "group")) (Zt (Zao Zf9 (Zb (Zd 1) Zj)) (Z6)))) [some (.oL (some a) (yss++[ys])),some (.ol xs)]=some (.nx [some (.oL (some a) (yss++[ys++[grD xs]])),some (.ol xs)]):=
  Zi9 (i:=0) (δ:=[some (.oL (some a) (yss++[ys])),some (.ol xs)]) (δ1:=[some (.oL (some a) (yss++[ys])),some (.ol xs)]) (δ2:=[some (.oL (some a) (yss++[ys])),some (.ol xs)]) (rv:=.tmp (.fz (grD xs))) (d:=grD xs) rfl (by simp) (by simp[z2,grD,Z1l]) rfl rfl (Zdu (by omega))
 have g1:¬((yss++[ys]++[xs]).length:Int)=1:=by simp;omega
 have g2:¬(xs.length:Int)=0:=by
  have:=List.length_pos_iff.mpr hx
  omega
 generalize yss++[ys]++[xs]=W at*
 unfold Gen.Z7 Gen.Zby
 simp[l1,l2,l3,g1,g2,hx]
theorem Zll{i:Nat}{fx:FX}{δ δ1 δ2:DSt}{p p2:Option Addr}{xss0 yss:List (List D)}{xs:List D}{rv:RV}{d:D}(hi:δ[i]? =some (some (.oL p xss0)))(hn:xss0.length≠0)(h1:fx δ=some (.v rv δ1))(h2:frz rv δ1=some (d,δ2))(h3:δ2[i]? =some (some (.oL p2 (yss++[xs]))))(hz:xs.length<PySem.sizeLine):
  Zbj i fx δ=some (.nx (δ2.set i (some (.oL p2 (yss++[xs++[d]]))))):=by
 unfold Zbj
 rw[hi]
 dsimp only
 rw[if_neg hn,h1,Option.bind_some]
 dsimp only
 rw[h2,Option.bind_some]
 dsimp only
 rw[h3]
 dsimp only
 rw[Zgr,Option.bind_some,if_pos hz,Zj5]
theorem Zlm{i:Nat}{fx:FX}{δ δ1:DSt}{p:Option Addr}{xss0:List (List D)}{e:Exn}(hi:δ[i]? =some (some (.oL p xss0)))(hn:xss0.length≠0)(h1:fx δ=some (.x e δ1)):
  Zbj i fx δ=some (.ex e δ1):=by
 unfold Zbj
 rw[hi]
 dsimp only
 rw[if_neg hn,h1,Option.bind_some]
noncomputable def tokD(t:Tk):D:=.str (S t.l)
section
variable(A B:Option SV)
theorem Zrg(xss:List (List D))(h:xss.length≤3):Gen.Ze [A,B,some (.oL none xss),some (.fz (tokD .op))]=some (.nx [A,B,some (.oL none (xss++[[]])),some (.fz (tokD .op))]):=by
 have m:Zek 2 Gen.Z8 [A,B,some (.oL none xss),some (.fz (tokD .op))]=some (.nx [A,B,some (.oL none (xss++[[]])),some (.fz (tokD .op))]):=Znn rfl fun a=>Zxn a xss h
 unfold tokD Tk.l at*
 unfold Gen.Ze
 simp[op_S,m]
theorem Ztz(xss:List (List D))(h:¬xss.length≤3):∃δ,Gen.Ze [A,B,some (.oL none xss),some (.fz (tokD .op))]=some (.ex NS δ):=by
 have m:Zek 2 Gen.Z8 [A,B,some (.oL none xss),some (.fz (tokD .op))]=some (.ex NS [A,B,none,some (.fz (tokD .op))]):=Zno rfl fun a=>Zty a xss h
 refine⟨[A,B,none,some (.fz (tokD .op))],?_⟩
 unfold tokD Tk.l at*
 unfold Gen.Ze
 simp[op_S,m]
theorem Zrh(yss:List (List D))(ys xs:List D)(hx:xs≠[])(hz:xs.length≤1000)(hy:ys.length≤1000)(hl:yss.length≤1000):Gen.Ze [A,B,some (.oL none (yss++[ys]++[xs])),some (.fz (tokD .cl))]=some (.nx [A,B,some (.oL none (yss++[ys++[grD xs]])),some (.fz (tokD .cl))]):=by
 have m:Zek 2 Gen.Z7 [A,B,some (.oL none (yss++[ys]++[xs])),some (.fz (tokD .cl))]=some (.nx [A,B,some (.oL none (yss++[ys++[grD xs]])),some (.fz (tokD .cl))]):=Znn rfl fun a=>mEnd a yss ys xs hx hz hy hl
 generalize yss++[ys]++[xs]=W at*
 unfold tokD Tk.l at*
 unfold Gen.Ze
 simp[op_S,cl_S,m]
theorem Zn2(xss:List (List D))(h:∀a,Gen.Z7 a xss=some (.x NS)):∃δ,Gen.Ze [A,B,some (.oL none xss),some (.fz (tokD .cl))]=some (.ex NS δ):=by
 have m:Zek 2 Gen.Z7 [A,B,some (.oL none xss),some (.fz (tokD .cl))]=some (.ex NS [A,B,none,some (.fz (tokD .cl))]):=Zno rfl h
 refine⟨[A,B,none,some (.fz (tokD .cl))],?_⟩
 unfold tokD Tk.l at*
 unfold Gen.Ze
 simp[op_S,cl_S,m]
theorem Zri(t:Tk)(d:D)(yss:List (List D))(xs:List D)(n1:¬S t.l=S [91])(n2:¬S t.l=S [93])(hr:Gen.Zm [tokD t]=some (.v (.fz d)))(hz:xs.length≤1000):Gen.Ze [A,B,some (.oL none (yss++[xs])),some (.fz (tokD t))]=some (.nx [A,B,some (.oL none (yss++[xs++[d]])),some (.fz (tokD t))]):=by
 have l:Zbj 2 (Zfm 1 Gen.Zm (Za1 (Ze0 (Zd 3)) (Zbw))) [A,B,some (.oL none (yss++[xs])),some (.fz (tokD t))]=some (.nx [A,B,some (.oL none (yss++[xs++[d]])),some (.fz (tokD t))]):=
  Zll (i:=2) (δ:=[A,B,some (.oL none (yss++[xs])),some (.fz (tokD t))]) (δ1:=[A,B,some (.oL none (yss++[xs])),some (.fz (tokD t))]) (δ2:=[A,B,some (.oL none (yss++[xs])),some (.fz (tokD t))]) (rv:=.tmp (.fz d)) (d:=d) rfl (by simp) (by simp[hr];exact ite_self _) rfl rfl (Zdu (by omega))
 generalize yss++[xs]=W at*
 unfold tokD at*
 unfold Gen.Ze
 simp[op_S,cl_S,n1,n2,l]
theorem Zt0(t:Tk)(xss:List (List D))(n1:¬S t.l=S [91])(n2:¬S t.l=S [93])(hr:Gen.Zm [tokD t]=some (.x NS))(hz:xss.length≠0):∃δ,Gen.Ze [A,B,some (.oL none xss),some (.fz (tokD t))]=some (.ex NS δ):=by
 have l:Zbj 2 (Zfm 1 Gen.Zm (Za1 (Ze0 (Zd 3)) (Zbw))) [A,B,some (.oL none xss),some (.fz (tokD t))]=some (.ex NS [A,B,some (.oL none xss),some (.fz (tokD t))]):=
  Zlm (i:=2) (δ:=[A,B,some (.oL none xss),some (.fz (tokD t))]) rfl hz (by simp[hr])
 refine⟨[A,B,some (.oL none xss),some (.fz (tokD t))],?_⟩
 unfold tokD at*
 unfold Gen.Ze
 simp[op_S,cl_S,n1,n2,l]
end
noncomputable def Pie:Nat→D→List Tk→Prop
 |0,_,_=>False
 |n+1,d,ts=>(∃l,(Tk.sg l).ok∧d=sgD l∧ts=[.sg l])
  ∨(∃ns:List (List Nat),ns≠[]∧ns.length≤4∧(∀m∈ns,Nam m)∧d=fdD (ns.map S)∧ts=[.br (jl [124] ns)])
  ∨(∃nm a b,Nam nm∧1≤a∧a≤9∧b≤2∧d=hdD nm a b∧ts=[.br (hdL nm a b)])
  ∨∃qs:List (D×List Tk),qs≠[]∧qs.length≤100∧(∀q∈qs,Pie n q.1 q.2)∧d=grD (qs.map (·.1))∧ts= .op::(qs.flatMap (·.2)++[.cl])
theorem Pie.mono:∀{n:Nat} {d:D} {ts:List Tk},Pie n d ts→Pie (n+1) d ts
 |0,_,_,h=>h.elim
 |n+1,d,ts,h=>by
  rcases h with h|h|h|⟨qs,h1,h2,h3,h4⟩
  ·exact .inl h
  ·exact .inr (.inl h)
  ·exact .inr (.inr (.inl h))
  ·exact .inr (.inr (.inr ⟨qs,h1,h2,fun q hq=>(h3 q hq).mono,h4⟩))
theorem Zn3(l:List Nat):¬S (Tk.br l).l=S [91]∧¬S (Tk.br l).l=S [93]:=by
 constructor
 ·intro z
  have:=Zgu z
  injection this with this _
  exact absurd this (by decide)
 ·intro z
  have:=Zgu z
  injection this with this _
  exact absurd this (by decide)
theorem Zn4{l:List Nat}(h:(Tk.sg l).ok):¬S (Tk.sg l).l=S [91]∧¬S (Tk.sg l).l=S [93]:=by
 obtain⟨c,r,ec,_,_,f2⟩:=(Tk.sg l).first h
 have hs:=f2 rfl
 rw[ec]
 constructor
 ·intro z
  have:=Zgu z
  injection this with this _
  rw[this,Zcv.1]at hs;cases hs
 ·intro z
  have:=Zgu z
  injection this with this _
  rw[this,Zcv.2.1]at hs;cases hs
noncomputable def Tk.isCl:Tk→Bool
 | .cl=>true
 |_=>false
theorem Zg3:∀ts:List Tk,(∀t∈ts,t.ok)→((ts.map tokD).countP fun y=>eqFl y (.str (S [93])))=ts.countP Tk.isCl
 | [],_=>rfl
 |t::ts,h=>by
  have ih:=Zg3 ts fun u hu=>h u (List.mem_cons_of_mem _ hu)
  have ht:=h t List.mem_cons_self
  rw[List.map_cons,List.countP_cons,List.countP_cons,ih]
  congr 1
  unfold tokD
  rw[Zpr]
  cases t with
  |op=>rw[decide_eq_false (S_ne (by decide))];rfl
  |cl=>rw[decide_eq_true (show S Tk.cl.l=S [93]from rfl)];rfl
  |br l=>rw[decide_eq_false (Zn3 l).2];rfl
  |sg l=>rw[decide_eq_false (Zn4 ht).2];rfl
theorem Gd.ok:∀{p:Bool} {ts:List Tk},Gd p ts→∀t∈ts,t.ok
 |_,[],_,_,h=>nomatch h
 |_,t::ts,g,u,h=>by
  rcases List.mem_cons.mp h with z|z
  ·subst z;exact g.1
  ·exact g.2.2.ok u z
theorem Zkj(ts:List Tk):(ts.map tokD).all D.isFlat=true:=by
 rw[List.all_map]
 exact List.all_eq_true.mpr fun t _=>rfl
end My
namespace My
open DL PySem
theorem Zxo{ns:List (List Nat)}(hl:ns.length≤4)(hn:∀n∈ns,Nam n):(jl [124] ns).length≤36:=by
 have:=Zre (y:=[124]) (B:=8) ns fun p hp=>(hn p hp).2.1
 have e:ns.length*(8+[124].length)≤4*9:=Nat.mul_le_mul hl (Nat.le_refl _)
 omega
theorem Zrj:∀a<10,strD [.int ((a:Nat):Int)]=some (.fz (.str (S [48+a]))):=by
 intro a ha
 have:∀a<10,((a:Nat):Int).natAbs.log2<1920∧(Str.ofString (toString ((a:Nat):Int)))=S [48+a]:=by decide+kernel
 obtain⟨h1,h2⟩:=this a ha
 show(if _ then _ else _)=_
 rw[if_pos h1]
 exact congrArg (fun s=>some (SV.fz (.str s))) h2
theorem Zkk:∀qs:List (D×List Tk),cat (qs.map fun q=>S (flat q.2))=S (flat (qs.flatMap (·.2)))
 | []=>by decide+kernel
 |q::qs=>by
  rw[List.map_cons,List.flatMap_cons,Zb5,←Zcy,←Zkk qs];rfl
theorem Zg4:∀(qs:List (D×List Tk)) (q:D×List Tk),q∈qs→(flat q.2).length≤(flat (qs.flatMap (·.2))).length
 | [],_,h=>nomatch h
 |p::qs,q,h=>by
  rw[List.flatMap_cons,Zb5,List.length_append]
  rcases List.mem_cons.mp h with z|z
  ·rw[z];omega
  ·have:=Zg4 qs q z;omega
theorem Zin(r:List D→Option SV):∀(qs:List (D×List Tk)) (zs:List D),(∀q∈qs,Gen.Z4 r [q.1]=some (.fz (.str (S (flat q.2)))))→zs.length+qs.length≤1000→Zgl [.own,.acc] 1 (Zap 0) Zhv (Gen.Zah r) (qs.map (·.1)) [none,some (.ol zs)]=some [none,some (.ol (zs++(qs.map fun q=>S (flat q.2)).map D.str))]
 | [],zs,_,_=>by simp
 |q::qs,zs,h,hl=>by
  rw[List.length_cons]at hl
  have ih:=Zin r qs (zs++[.str (S (flat q.2))]) (fun p hp=>h p (List.mem_cons_of_mem _ hp)) (by rw[List.length_append,List.length_singleton];omega)
  have e1:=h q List.mem_cons_self
  have z:zs.length<PySem.sizeLine:=Zdu (by omega)
  have st:Zgl [.own,.acc] 1 (Zap 0) Zhv (Gen.Zah r) (q.1::qs.map (·.1)) [none,some (.ol zs)]=Zgl [.own,.acc] 1 (Zap 0) Zhv (Gen.Zah r) (qs.map (·.1)) [none,some (.ol (zs++[.str (S (flat q.2))]))]:=by
   generalize S (flat q.2)=T at*
   generalize qs.map (·.1)=DS at*
   unfold Gen.Zah
   simp[e1,z]
  refine st.trans (ih.trans ?_)
  simp
theorem Zkl{k:Nat}(qs:List (D×List Tk))(hall:∀q∈qs,Gen.Z4 (Gen.Zr k) [q.1]=some (.fz (.str (S (flat q.2)))))(hq:qs.length≤100)(hL:(flat (qs.flatMap (·.2))).length≤100000):Gen.Zr (k+1) [.tup (qs.map (·.1))]=some (.fz (.str (S (flat (qs.flatMap (·.2)))))):=by
 have c:=Zin (Gen.Zr k) qs [] hall (by simp;omega)
 rw[List.nil_append]at c
 have j:=Zq6 (sep:=Str.ofString "") (xs:=qs.map fun q=>S (flat q.2)) (B:=100000) (fun x hx=>by
  obtain⟨q,hq,rfl⟩:=List.mem_map.mp hx
  rw[Z0];have:=Zg4 qs q hq;omega) (by
  have:(Str.ofString "").length=0:=by decide+kernel
  rw[this,List.length_map];omega)
 have tj:=Zxb (qs.map fun q=>S (flat q.2))
 rw[Zkk]at tj
 have sm:=Zgt (qs.map fun q=>S (flat q.2))
 generalize (qs.map fun q=>S (flat q.2))=TS at*
 generalize qs.map (·.1)=DS at*
 generalize flat (qs.flatMap (·.2))=FL at*
 unfold Gen.Zr Gen.Zbe
 simp[-Zgl,c,sm,j,tj]
theorem Zt1(y:List Nat)(ns:List (List Nat)):Str.join (S y) (ns.map S)=S (jl y ns):=by
 have e:=Zid (S y) (ns.map S)
 rw[List.map_map]at e
 have e2:ns.map ((fun p=>p.cps.toList)∘S)=ns:=by
  conv=>rhs;rw[←List.map_id ns]
  refine List.map_congr_left fun a _=>?_
  show(S a).cps.toList=a
  rw[Zad]
 rw[e2,Zad]at e
 rw[S_of (Str.join (S y) (ns.map S)),e]
theorem Zp8{ns:List (List Nat)}(hl:ns.length≤4)(hn:∀n∈ns,Nam n):JoinOk (S [124]) (ns.map S)=true:=Zq6 (B:=8) (fun x hx=>by
 obtain⟨n,h,rfl⟩:=List.mem_map.mp hx
 rw[Z0];exact(hn n h).2.1) (by
 have:(S [124]).length=1:=by decide+kernel
 rw[this,List.length_map];omega)
theorem two1(x y:D):L2.atI [x,y] 1=some y:=rfl
theorem two0(x y:D):L2.atI [x,y] 0=some x:=rfl
theorem Z1p(x y z u:D):L2.atI [x,y,z,u] 0=some x:=rfl
theorem Z1q(x y z u:D):L2.atI [x,y,z,u] 1=some y:=rfl
theorem Z1r(x y z u:D):L2.atI [x,y,z,u] 2=some z:=rfl
theorem Z1s(x y z u:D):L2.atI [x,y,z,u] 3=some u:=rfl
theorem fl_s:¬FLD=SGS:=by decide+kernel
theorem hd_s:¬HDS=SGS:=by decide+kernel
theorem hd_f:¬HDS=FLD:=by decide+kernel
theorem gr_s:¬GRP=SGS:=by decide+kernel
theorem gr_f:¬GRP=FLD:=by decide+kernel
theorem gr_h:¬GRP=HDS:=by decide+kernel
theorem brk{a b:Nat}(l:List Nat):S [a]++S l++S [b]=S (a::(l++[b])):=by rw[Zcy,Zcy];simp
theorem Zxp{a b:Nat}(l:List Nat)(h:l.length≤1000000):(S [a]).length+(S l).length≤PySem.sizeLine∧(S [a]++S l).length+(S [b]).length≤PySem.sizeLine:=by
 constructor
 ·refine Zh ?_;rw[Z0,Z0];simp;omega
 ·refine Zh ?_;rw[Zcy,Z0,Z0];simp;omega
theorem Z1t(n:List Nat)(a b:Nat):S [123]++S n++S [32]++S [48+a]++S [32]++S [48+b]++S [125]=S (Tk.br (hdL n a b)).l:=by
 rw[Zcy,Zcy,Zcy,Zcy,Zcy,Zcy]
 show _=S (123::((n++[32]++([48+a]++[32]++[48+b]))++[125]))
 congr 1
 simp
theorem Zxq:∀(n:Nat) (d:D) (ts:List Tk),Pie n d ts→(flat ts).length≤100000→∀m,n≤m+1→Gen.Z4 (Gen.Zr m) [d]=some (.fz (.str (S (flat ts))))
 |0,_,_,h,_,_,_=>h.elim
 |n+1,d,ts,h,hL,m,hm=>by
  rcases h with⟨l,h1,rfl,rfl⟩|⟨ns,h0,h1,h2,rfl,rfl⟩|⟨nm,a,b,h1,h2,h3,h4,rfl,rfl⟩|⟨qs,h0,h1,h2,rfl,rfl⟩
  ·have e:flat [Tk.sg l]=l:=by show l++[]=l;simp
   rw[e]
   generalize Gen.Zr m=r
   unfold Gen.Z4 Gen.Za9 sgD
   simp[two0,two1,Zp7]
  ·have e:flat [Tk.br (jl [124] ns)]=123::(jl [124] ns++[125]):=by show 123::(jl [124] ns++[125])++[]=_;simp
   have js:=Zt1 [124] ns
   have jo:=Zp8 h1 h2
   have tj:=Z1h (S [124]) (ns.map S)
   rw[js]at tj
   have sm:=Zgt (ns.map S)
   have zl:=Zxo h1 h2
   obtain⟨z1,z3⟩:=Zxp (a:=123) (b:=125) (jl [124] ns) (by omega)
   rw[e,←brk]
   unfold fdD
   generalize ns.map S=N at*
   generalize S (jl [124] ns)=J at*
   generalize Gen.Zr m=r
   unfold Gen.Z4 Gen.Za9
   simp[two0,two1,Zp7,Ztt,fl_s,ob_S,cb_S,ba_S,sm,jo,tj,z1,z3]
  ·have e:flat [Tk.br (hdL nm a b)]=(Tk.br (hdL nm a b)).l:=by show _++[]=_;simp
   have s1:=Zrj a (by omega)
   have s2:=Zrj b (by omega)
   have ln:=h1.2.1
   have l1:(S [123]).length=1:=Z0 _
   have l2:(S [32]).length=1:=Z0 _
   have l3:(S [48+a]).length=1:=Z0 _
   have l4:(S [48+b]).length=1:=Z0 _
   have l5:(S [125]).length=1:=Z0 _
   have l6:(S nm).length≤8:=by rw[Z0];exact ln
   rw[e,←Z1t]
   unfold hdD
   have oO:=ob_S
   have oB:=bl_S
   have oC:=cb_S
   generalize S nm=N at*
   generalize S [48+a]=SA at*
   generalize S [48+b]=SB at*
   generalize S [123]=O at*
   have z1:O.length+N.length≤PySem.sizeLine:=Zh (by omega)
   have z2:(O++N).length+(S [32]).length≤PySem.sizeLine:=Zh (by rw[Za5];omega)
   have z3:(O++N++S [32]).length+SA.length≤PySem.sizeLine:=Zh (by rw[Za5,Za5];omega)
   have z4:(O++N++S [32]++SA).length+(S [32]).length≤PySem.sizeLine:=Zh (by rw[Za5,Za5,Za5];omega)
   have z5:(O++N++S [32]++SA++S [32]).length+SB.length≤PySem.sizeLine:=Zh (by rw[Za5,Za5,Za5,Za5];omega)
   have z6:(O++N++S [32]++SA++S [32]++SB).length+(S [125]).length≤PySem.sizeLine:=Zh (by rw[Za5,Za5,Za5,Za5,Za5];omega)
   generalize S [32]=BL at*
   generalize S [125]=CB at*
   generalize Gen.Zr m=r
   unfold Gen.Z4 Gen.Za9
   simp[-strD,Z1p,Z1q,Z1r,Z1s,Zp7,Ztt,Zxl,hd_s,hd_f,oO,oC,oB,s1,s2,z1,z2,z3,z4,z5,z6]
  ·have n1:1≤n:=by
    cases n with
    |succ k=>omega
    |zero=>
     cases qs with
     |nil=>exact absurd rfl h0
     |cons q r=>exact(h2 q List.mem_cons_self).elim
   have e:flat (Tk.op::(qs.flatMap (·.2)++[.cl]))=91::(flat (qs.flatMap (·.2))++[93]):=by
    rw[Zdg,Zb5];rfl
   rw[e]at hL⊢
   rw[List.length_cons,List.length_append]at hL
   obtain⟨k,rfl⟩:∃k,m=k+1:=⟨m- 1,by omega⟩
   have st:=Zkl (k:=k) qs (fun q hq=>Zxq n q.1 q.2 (h2 q hq) (by have:=Zg4 qs q hq;omega) k (by omega)) h1 (by omega)
   obtain⟨z1,z3⟩:=Zxp (a:=91) (b:=93) (flat (qs.flatMap (·.2))) (by omega)
   rw[←brk]
   unfold grD
   generalize qs.map (·.1)=DS at*
   generalize S (flat (qs.flatMap (·.2)))=FL at*
   generalize Gen.Zr (k+1)=r at*
   unfold Gen.Z4 Gen.Za9
   simp[two0,two1,Zp7,Ztt,Zxl,gr_s,gr_f,gr_h,op_S,cl_S,st,z1,z3]
theorem Z1u(qs:List (D×List Tk))(h:∀q∈qs,Pie 4 q.1 q.2)(hq:qs.length≤100)(hL:(flat (qs.flatMap (·.2))).length≤100000):Gen.Zaa [.tup (qs.map (·.1))]=some (.fz (.str (S (flat (qs.flatMap (·.2)))))):=
 Zkl (k:=11) qs (fun q hq=>Zxq 4 q.1 q.2 (h q hq) (by have:=Zg4 qs q hq;omega) 11 (by decide)) hq hL
end My
namespace My
open DL PySem
noncomputable abbrev Q:=D×List Tk
noncomputable def tks(qs:List Q):List Tk:=qs.flatMap (·.2)
noncomputable def dsq(qs:List Q):List D:=qs.map (·.1)
noncomputable def nc(ts:List Tk):Nat:=ts.countP fun t=>!t.isCl
theorem Zgd(a b:List Tk):nc (a++b)=nc a+nc b:=List.countP_append
theorem Zd1(a b:List Q):tks (a++b)=tks a++tks b:=List.flatMap_append
theorem Zd2(q:Q):tks [q]=q.2:=by unfold tks;simp
theorem Zn5(a b:List Q):dsq (a++b)=dsq a++dsq b:=List.map_append
noncomputable def Ze4:Bool→List Tk→Bool
 |p,[]=>p
 |_,t::r=>Ze4 t.isSg r
theorem Zec:∀(p:Bool) (a b:List Tk),Ze4 p (a++b)=Ze4 (Ze4 p a) b
 |_,[],_=>rfl
 |_,t::a,b=>Zec t.isSg a b
theorem Zrk:∀{p:Bool} {a b:List Tk},Gd p a→Gd (Ze4 p a) b→Gd p (a++b)
 |_,[],_,_,h=>h
 |_,t::a,b,⟨h1,h2,h3⟩,h=>⟨h1,h2,Zrk h3 h⟩
theorem Gd.any{ts:List Tk}(h:Gd true ts)(p:Bool):Gd p ts:=by
 cases ts with
 |nil=>trivial
 |cons t r=>exact⟨h.1,fun z=>h.2.1 ⟨rfl,z.2⟩,h.2.2⟩
structure Lev(n:Nat)(qs:List Q):Prop where
 pie:∀q∈qs,Pie n q.1 q.2
 gd:Gd false (tks qs)
theorem Zg5:∀qs:List Q,(∀q∈qs,1≤nc q.2∧q.2.countP Tk.isCl≤nc q.2)→qs.length≤nc (tks qs)∧(tks qs).countP Tk.isCl≤nc (tks qs)
 | [],_=>⟨Nat.zero_le _,Nat.zero_le _⟩
 |q::qs,h=>by
  obtain⟨h1,h2⟩:=h q List.mem_cons_self
  obtain⟨h3,h4⟩:=Zg5 qs fun p hp=>h p (List.mem_cons_of_mem _ hp)
  have e:tks (q::qs)=q.2++tks qs:=rfl
  rw[e,Zgd,List.countP_append,List.length_cons]
  omega
theorem Zrl(ts:List Tk):nc (.op::(ts++[.cl]))=nc ts+1:=by
 have e:(.op::(ts++[.cl]):List Tk)=[.op]++(ts++[.cl]):=rfl
 rw[e,Zgd,Zgd]
 show 1+(nc ts+0)=_
 omega
theorem Zxr(ts:List Tk):(.op::(ts++[.cl]):List Tk).countP Tk.isCl=ts.countP Tk.isCl+1:=by
 have e:(.op::(ts++[.cl]):List Tk)=[.op]++(ts++[.cl]):=rfl
 rw[e,List.countP_append,List.countP_append]
 show 0+(ts.countP Tk.isCl+1)=_
 omega
theorem Zjd:∀(n:Nat) (d:D) (ts:List Tk),Pie n d ts→1≤nc ts∧ts.countP Tk.isCl≤nc ts
 |0,_,_,h=>h.elim
 |n+1,d,ts,h=>by
  rcases h with⟨l,h1,rfl,rfl⟩|⟨ns,h0,h1,h2,rfl,rfl⟩|⟨nm,a,b,h1,h2,h3,h4,rfl,rfl⟩|⟨qs,h0,h1,h2,rfl,rfl⟩
  ·exact⟨Nat.le_refl 1,Nat.zero_le _⟩
  ·exact⟨Nat.le_refl 1,Nat.zero_le _⟩
  ·exact⟨Nat.le_refl 1,Nat.zero_le _⟩
  ·have:=Zg5 qs fun q hq=>Zjd n q.1 q.2 (h2 q hq)
   have e1:=Zrl (tks qs)
   have e2:=Zxr (tks qs)
   show 1≤nc (.op::(tks qs++[.cl]))∧(.op::(tks qs++[.cl]):List Tk).countP Tk.isCl≤nc (.op::(tks qs++[.cl]))
   omega
structure Inv(lv:List (List Q))(m:Nat):Prop where
 lev:∀i qs,lv[i]? =some qs→Lev (4- i) qs
 one:1≤lv.length
 four:lv.length≤4
 sum:(lv.map fun qs=>nc (tks qs)).sum+lv.length≤m+1
theorem Inv.start:Inv [[]] 0:=by
 refine⟨fun i qs h=>?_,by decide,by decide,by decide⟩
 match i,h with
 |0,h=>cases h;exact⟨(fun _ h=>nomatch h),trivial⟩
 |i+1,h=>cases h
theorem Inv.push{lv:List (List Q)}{m:Nat}(h:Inv lv m)(hl:lv.length<4):Inv (lv++[[]]) (m+1):=by
 refine⟨fun i qs e=>?_,by simp,by simp;omega,?_⟩
 ·by_cases hi:i<lv.length
  ·rw[List.getElem?_append_left hi]at e;exact h.lev i qs e
  ·rw[List.getElem?_append_right (by omega)]at e
   match hj:i- lv.length,e with
   |0,e=>cases e;exact⟨(fun _ h=>nomatch h),trivial⟩
   |j+1,e=>cases e
 ·have:=h.sum
  rw[List.map_append,List.sum_append,List.length_append]
  show _+0+(_+1)≤_
  omega
theorem Inv.top{lv:List (List Q)}{qs:List Q}{m:Nat}(h:Inv (lv++[qs]) m):Lev (4- lv.length) qs:=h.lev lv.length qs (by rw[List.getElem?_append_right (Nat.le_refl _),Nat.sub_self];rfl)
theorem Inv.with{lv:List (List Q)}{qs ps:List Q}{m k:Nat}(h:Inv (lv++[qs]) m)(hp:Lev (4- lv.length) ps)(hk:nc (tks ps)≤nc (tks qs)+k):Inv (lv++[ps]) (m+k):=by
 refine⟨fun i rs e=>?_,by simp,by have:=h.four;simp at this⊢;omega,?_⟩
 ·by_cases hi:i<lv.length
  ·refine h.lev i rs ?_
   rw[List.getElem?_append_left hi]at e⊢;exact e
  ·rw[List.getElem?_append_right (by omega)]at e
   match hj:i- lv.length,e with
   |0,e=>cases e;rw[show i=lv.length by omega];exact hp
   |j+1,e=>cases e
 ·have:=h.sum
  rw[List.map_append,List.sum_append,List.length_append]at this⊢
  have this:(lv.map fun qs=>nc (tks qs)).sum+(nc (tks qs)+0)+(lv.length+1)≤m+1:=this
  show(lv.map fun qs=>nc (tks qs)).sum+(nc (tks ps)+0)+(lv.length+1)≤m+k+1
  omega
theorem Lev.add{n:Nat}{qs:List Q}{d:D}{ts:List Tk}(h:Lev n qs)(hp:Pie n d ts)(hg:Gd (Ze4 false (tks qs)) ts):Lev n (qs++[(d,ts)]):=by
 refine⟨fun q hq=>?_,?_⟩
 ·rcases List.mem_append.mp hq with z|z
  ·exact h.pie q z
  ·rw[List.mem_singleton.mp z];exact hp
 ·rw[Zd1,Zd2]
  exact Zrk h.gd hg
theorem Pie.le{n:Nat}{d:D}{ts:List Tk}(h:Pie n d ts):∀{m:Nat},n≤m→Pie m d ts:=by
 intro m hm
 obtain⟨k,rfl⟩:∃k,m=n+k:=⟨m- n,by omega⟩
 clear hm
 induction k with
 |zero=>exact h
 |succ k ih=>exact ih.mono
theorem Inv.add{lv:List (List Q)}{qs:List Q}{m:Nat}{d:D}{t:Tk}(h:Inv (lv++[qs]) m)(hp:Pie 1 d [t])(hg:Gd (Ze4 false (tks qs)) [t]):Inv (lv++[qs++[(d,[t])]]) (m+1):=by
 have h4:=h.four
 rw[List.length_append,List.length_singleton]at h4
 refine h.with (h.top.add (hp.le (by omega)) hg) ?_
 rw[Zd1,Zd2,Zgd]
 have:nc [t]≤1:=List.countP_le_length
 show nc (tks qs)+nc [t]≤_
 omega
theorem Zxs:∀{p:Bool} {ts:List Tk},Gd p ts→Gd p (ts++[.cl])
 |_,[],_=>⟨trivial,(fun h=>nomatch h.2),trivial⟩
 |_,t::ts,⟨h1,h2,h3⟩=>⟨h1,h2,Zxs h3⟩
noncomputable def grQ(qs:List Q):Q:=(grD (dsq qs),.op::(tks qs++[.cl]))
theorem Inv.shut{lv:List (List Q)}{ps qs:List Q}{m:Nat}(h:Inv (lv++[ps]++[qs]) m)(h0:qs≠[])(hm:m≤60):Inv (lv++[ps++[grQ qs]]) m:=by
 have h4:=h.four
 rw[List.length_append,List.length_append,List.length_singleton,List.length_singleton]at h4
 have ht:=h.top
 rw[List.length_append,List.length_singleton]at ht
 have hs:=h.sum
 have hq:qs.length≤100:=by
  have:=(Zg5 qs fun q hq=>Zjd _ q.1 q.2 (ht.pie q hq)).1
  rw[List.map_append,List.sum_append]at hs
  have hs:((lv++[ps]).map fun qs=>nc (tks qs)).sum+(nc (tks qs)+0)+_≤m+1:=hs
  omega
 have hp:Lev (4- lv.length) ps:=h.lev lv.length ps (by
  rw[List.append_assoc,List.getElem?_append_right (Nat.le_refl _),Nat.sub_self];rfl)
 have e4:4- lv.length=(4- (lv.length+1))+1:=by omega
 have pg:Pie (4- lv.length) (grD (dsq qs)) (.op::(tks qs++[.cl])):=by
  rw[e4]
  exact .inr (.inr (.inr ⟨qs,h0,hq,ht.pie,rfl,rfl⟩))
 have gg:Gd true (.op::(tks qs++[.cl])):=⟨trivial,(fun z=>nomatch z.2),Zxs ht.gd⟩
 have la:=hp.add (d:=grD (dsq qs)) pg (gg.any _)
 refine⟨fun i rs e=>?_,by simp,by simp;omega,?_⟩
 ·by_cases hi:i<lv.length
  ·refine h.lev i rs ?_
   rw[List.append_assoc]
   rw[List.getElem?_append_left hi]at e⊢;exact e
  ·rw[List.getElem?_append_right (by omega)]at e
   match hj:i- lv.length,e with
   |0,e=>cases e;rw[show i=lv.length by omega];exact la
   |j+1,e=>cases e
 ·have hn:=Zrl (tks qs)
  rw[List.map_append,List.sum_append,List.map_append,List.sum_append,List.length_append,List.length_append]at hs
  have hs:(lv.map fun qs=>nc (tks qs)).sum+(nc (tks ps)+0)+(nc (tks qs)+0)+(lv.length+1+1)≤m+1:=hs
  rw[List.map_append,List.sum_append,List.length_append]
  show(lv.map fun qs=>nc (tks qs)).sum+(nc (tks (ps++[grQ qs]))+0)+(lv.length+1)≤m+1
  rw[Zd1,Zd2,Zgd]
  show(lv.map fun qs=>nc (tks qs)).sum+(nc (tks ps)+nc (.op::(tks qs++[.cl]))+0)+(lv.length+1)≤m+1
  omega
theorem Zrm(ts:List Tk):ts.length=nc ts+ts.countP Tk.isCl:=by
 have:=List.length_eq_countP_add_countP (p:=Tk.isCl) (l:=ts)
 have e:ts.countP (fun a=>decide ¬(Tk.isCl a=true))=nc ts:=by
  unfold nc
  congr 1
  funext t
  cases t<;> rfl
 rw[e]at this
 omega
structure Tmp(qs:List Q):Prop where
 lev:Lev 4 qs
 few:nc (tks qs)≤30
 len:(flat (tks qs)).length≤100000
 most:qs.length≤100
noncomputable def lvT(lv:List (List Q)):List Tk:=lv.flatMap fun qs=>.op::tks qs
theorem Zes(a b:List (List Q)):lvT (a++b)=lvT a++lvT b:=List.flatMap_append
theorem Zdh(qs:List Q):lvT [qs]= .op::tks qs:=by unfold lvT;simp
theorem Inv.few{lv:List (List Q)}{qs:List Q}{m:Nat}(h:Inv (lv++[qs]) m):qs.length≤m:=by
 have hs:=h.sum
 rw[List.map_append,List.sum_append,List.length_append]at hs
 have hs:(lv.map fun qs=>nc (tks qs)).sum+(nc (tks qs)+0)+(lv.length+1)≤m+1:=hs
 have:=(Zg5 qs fun q hq=>Zjd _ q.1 q.2 (h.top.pie q hq)).1
 omega
theorem Zt2{t:Tk}(ht:t.ok)(ha:Asc t.l)(h1:t≠.op)(h2:t≠.cl):(¬S t.l=S [91])∧(¬S t.l=S [93])∧(Gen.Zm [tokD t]=some (.x NS)∨∃d,Pie 1 d [t]∧Gen.Zm [tokD t]=some (.v (.fz d))):=by
 cases t with
 |op=>exact absurd rfl h1
 |cl=>exact absurd rfl h2
 |sg l=>exact⟨(Zn4 ht).1,(Zn4 ht).2,.inr ⟨sgD l,.inl ⟨l,ht,rfl,rfl⟩,Zrd ht⟩⟩
 |br l=>
  have al:Asc l:=fun c hc=>ha c (by show c∈123::(l++[125]);simp[hc])
  refine⟨(Zn3 l).1,(Zn3 l).2,?_⟩
  rcases Zxm al ht.2 with e|⟨ns,a0,a1,a2,rfl,e⟩|⟨n,a,b,a1,a2,a3,a4,rfl,e⟩
  ·exact .inl e
  ·exact .inr ⟨_,.inr (.inl ⟨ns,a0,a1,a2,rfl,rfl⟩),e⟩
  ·exact .inr ⟨_,.inr (.inr (.inl ⟨n,a,b,a1,a2,a3,a4,rfl,rfl⟩)),e⟩
theorem Zkm(A B:Option SV):∀(ts:List Tk) (lv:List (List Q)) (qs:List Q) (m:Nat) (x:Option SV),Inv (lv++[qs]) m→Gd (Ze4 false (tks qs)) ts→(∀t∈ts,Asc t.l)→m+nc ts≤60→
  (∃δ,forD (Zap 3) Gen.Ze (ts.map tokD) [A,B,some (.oL none ((lv++[qs]).map dsq)),x]=some (.ex NS δ))∨∃lv' qs' x',Inv (lv'++[qs']) (m+nc ts)∧lvT (lv'++[qs'])=lvT (lv++[qs])++ts∧forD (Zap 3) Gen.Ze (ts.map tokD) [A,B,some (.oL none ((lv++[qs]).map dsq)),x]=some (.nx [A,B,some (.oL none ((lv'++[qs']).map dsq)),x'])
 | [],lv,qs,m,x,hi,_,_,_=>.inr ⟨lv,qs,x,hi,by rw[List.append_nil],rfl⟩
 |t::ts,lv,qs,m,x,hi,hg,ha,hm=>by
  have run:(Zap 3).run (tokD t) [A,B,some (.oL none ((lv++[qs]).map dsq)),x]=some [A,B,some (.oL none ((lv++[qs]).map dsq)),some (.fz (tokD t))]:=by simp
  have ha':∀u∈ts,Asc u.l:=fun u hu=>ha u (List.mem_cons_of_mem _ hu)
  obtain⟨g1,g2,g3⟩:=hg
  have ncs:nc (t::ts)=nc [t]+nc ts:=Zgd [t] ts
  have h4:=hi.four
  have hf:=hi.few
  rw[List.length_append,List.length_singleton]at h4
  have em:(lv++[qs]).map dsq=lv.map dsq++[dsq qs]:=by simp
  have dl:(dsq qs).length=qs.length:=List.length_map _
  rw[List.map_cons]
  by_cases e1:t= .op
  ·subst e1
   have n1:nc [Tk.op]=1:=rfl
   by_cases hl:(lv++[qs]).length≤3
   ·have st:=Zrg A B ((lv++[qs]).map dsq) (by rw[List.length_map];exact hl)
    have e3:(lv++[qs]).map dsq++[[]]=(lv++[qs]++[[]]).map dsq:=by rw[List.map_append (l₁:=lv++[qs])];rfl
    rw[e3]at st
    rw[Zdv run st]
    rcases Zkm A B ts (lv++[qs]) [] (m+1) (some (.fz (tokD .op))) (hi.push (by omega)) g3 ha' (by omega)with⟨δ,e⟩|⟨lv',qs',x',a1,a2,a3⟩
    ·exact .inl ⟨δ,e⟩
    ·refine .inr ⟨lv',qs',x',?_,?_,a3⟩
     ·rw[show m+nc (Tk.op::ts)=m+1+nc ts by omega];exact a1
     ·rw[a2,Zes (lv++[qs]),Zdh,List.append_assoc];rfl
   ·obtain⟨δ,e⟩:=Ztz A B ((lv++[qs]).map dsq) (by rw[List.length_map];exact hl)
    exact .inl ⟨δ,Zfv run e⟩
  by_cases e2:t= .cl
  ·subst e2
   have n0:nc [Tk.cl]=0:=rfl
   rcases List.eq_nil_or_concat lv with hz|⟨lw,ps,hz⟩
   ·subst hz
    obtain⟨δ,e⟩:=Zn2 A B (([]++[qs]).map dsq) fun a=>Z1n a (dsq qs)
    exact .inl ⟨δ,Zfv run e⟩
   rw[List.concat_eq_append]at hz
   subst hz
   have em2:(lw++[ps]++[qs]).map dsq=lw.map dsq++[dsq ps]++[dsq qs]:=by simp
   by_cases h0:qs=[]
   ·subst h0
    have e0:(lw++[ps]++[[]]).map dsq=lw.map dsq++[dsq ps]++[[]]:=em2
    obtain⟨δ,e⟩:=Zn2 A B ((lw++[ps]++[[]]).map dsq) fun a=>by rw[e0];exact Z1o a (lw.map dsq) (dsq ps)
    exact .inl ⟨δ,Zfv run e⟩
   ·have hsh:=hi.shut h0 (by omega)
    have hpl:ps.length≤60:=by
     have:=hsh.few
     rw[List.length_append,List.length_singleton]at this
     omega
    have st:=Zrh A B (lw.map dsq) (dsq ps) (dsq qs) (by unfold dsq;simpa using h0) (by omega) (by unfold dsq;rw[List.length_map];omega) (by rw[List.length_map];rw[List.length_append]at h4;omega)
    have e3:lw.map dsq++[dsq ps++[grD (dsq qs)]]=(lw++[ps++[grQ qs]]).map dsq:=by
     rw[List.map_append]
     show _=lw.map dsq++[dsq (ps++[grQ qs])]
     rw[Zn5];rfl
    rw[e3,←em2]at st
    rw[Zdv run st]
    have ge:Ze4 false (tks (ps++[grQ qs]))=false:=by
     rw[Zd1,Zd2,Zec]
     show Ze4 _ (.op::(tks qs++[.cl]))=false
     show Ze4 false (tks qs++[.cl])=false
     rw[Zec];rfl
    rcases Zkm A B ts lw (ps++[grQ qs]) m (some (.fz (tokD .cl))) hsh (by rw[ge];exact g3) ha' (by omega)with⟨δ,e⟩|⟨lv',qs',x',a1,a2,a3⟩
    ·exact .inl ⟨δ,e⟩
    ·refine .inr ⟨lv',qs',x',?_,?_,a3⟩
     ·rw[show m+nc (Tk.cl::ts)=m+nc ts by omega];exact a1
     ·rw[a2,Zes lw,Zes (lw++[ps]),Zes lw,Zdh,Zdh,Zdh,Zd1,Zd2]
      show lvT lw++ .op::(tks ps++ .op::(tks qs++[.cl]))++ts=_
      simp
  ·obtain⟨n1,n2,hr⟩:=Zt2 g1 (ha t List.mem_cons_self) e1 e2
   have nt:nc [t]=1:=by
    cases t with
    |cl=>exact absurd rfl e2
    |op=>rfl
    |sg l=>rfl
    |br l=>rfl
   rcases hr with hr|⟨d,hp,hr⟩
   ·obtain⟨δ,e⟩:=Zt0 A B t ((lv++[qs]).map dsq) n1 n2 hr (by simp)
    exact .inl ⟨δ,Zfv run e⟩
   ·have st:=Zri A B t d (lv.map dsq) (dsq qs) n1 n2 hr (by omega)
    have e3:lv.map dsq++[dsq qs++[d]]=(lv++[qs++[(d,[t])]]).map dsq:=by
     rw[List.map_append]
     show _=lv.map dsq++[dsq (qs++[(d,[t])])]
     rw[Zn5];rfl
    rw[e3,←em]at st
    rw[Zdv run st]
    have ge:Ze4 false (tks (qs++[(d,[t])]))=t.isSg:=by
     rw[Zd1,Zd2,Zec];rfl
    rcases Zkm A B ts lv (qs++[(d,[t])]) (m+1) (some (.fz (tokD t))) (hi.add hp ⟨g1,g2,trivial⟩) (by rw[ge];exact g3) ha' (by omega)with⟨δ,e⟩|⟨lv',qs',x',a1,a2,a3⟩
    ·exact .inl ⟨δ,e⟩
    ·refine .inr ⟨lv',qs',x',?_,?_,a3⟩
     ·rw[show m+nc (t::ts)=m+1+nc ts by omega];exact a1
     ·rw[a2,Zes lv,Zes lv,Zdh,Zdh,Zd1,Zd2]
      simp
theorem Zn6(L:List Nat)(hL:L.length≤15000)(ha:Asc L):Gen.Zf [.str (S L)]=some (.x NS)∨∃qs,Tmp qs∧flat (tks qs)=L∧Gen.Zf [.str (S L)]=some (.v (.fz (.tup (dsq qs)))):=by
 rcases Zts L hL ha with c|⟨ts,e,g,hn,c⟩
 ·refine .inl ?_
  unfold Gen.Zf Gen.Zw
  simp[-forD,c]
 have c:Gen.Zas [.str (S L)]=some (.v (.ol (ts.map tokD))):=c
 have cc:=Zg3 ts g.ok
 have fl:=Zkj ts
 have hlen:(ts.map tokD).length=ts.length:=by rw[List.length_map]
 have nl:=Zrm ts
 have zc:(ts.map tokD).length≤PySem.sizeLine:=Zh (by omega)
 have k:∀C:List D,C=ts.map tokD→bmF "list" Za8 (Zd 1) (Zb (Za (.str "]")) Zj) [some (.fz (.str (S L))),some (.ol C),none,none]=some (.tmp (.fz (.int (ts.countP Tk.isCl:Nat))),[some (.fz (.str (S L))),some (.ol C),none,none]):=fun C hC=>by
  have e:Za8 [.lst C,.str "]"]=some (.fz (.int (ts.countP Tk.isCl:Nat))):=by
   subst hC
   show(if _ then _ else _)=_
   rw[if_pos ⟨rfl,fl⟩,←cc,←cl_S]
  simp[-Za8,e]
 have k:=k _ rfl
 have tt:Zz (binF gtD (binF subD (Zao lenD (Zb (Zd 1) Zj)) (bmF "list" Za8 (Zd 1) (Zb (Za (.str "]")) Zj))) (Za (.int 30))) [some (.fz (.str (S L))),some (.ol (ts.map tokD)),none,none]=some (decide (30<nc ts),[some (.fz (.str (S L))),some (.ol (ts.map tokD)),none,none]):=by
  have hP:((ts.map tokD).length:Int)- (ts.countP Tk.isCl:Nat)=(nc ts:Int):=by omega
  have hd:decide ((30:Int)<(nc ts:Int))=decide (30<nc ts):=decide_eq_decide.mpr (by omega)
  generalize bmF "list" Za8 (Zd 1) (Zb (Za (.str "]")) Zj)=KF at*
  generalize ts.map tokD=C at*
  simp[k,hP,hd]
 by_cases h30:30<nc ts
 ·refine .inl ?_
  rw[decide_eq_true h30]at tt
  generalize ts.map tokD=C at*
  unfold Gen.Zf Gen.Zw
  generalize Zz (binF gtD (binF subD (Zao lenD (Zb (Zd 1) Zj)) (bmF "list" Za8 (Zd 1) (Zb (Za (.str "]")) Zj))) (Za (.int 30)))=TF at*
  simp[-forD,c,tt]
 rw[decide_eq_false h30]at tt
 have at':∀t∈ts,Asc t.l:=fun t ht c hc=>ha c (by rw[←e];exact List.mem_flatMap.mpr ⟨t,ht,hc⟩)
 rcases Zkm (some (.fz (.str (S L)))) (some (.fz (.lst (ts.map tokD)))) ts [] [] 0 none Inv.start g at' (by omega)with⟨δ,r⟩|⟨lv,qs,x',a1,a2,r⟩
 ·refine .inl ?_
  have r:forD (Zap 3) Gen.Ze (ts.map tokD) [some (.fz (.str (S L))),some (.fz (.lst (ts.map tokD))),some (.oL none [[]]),none]=some (.ex NS δ):=r
  generalize ts.map tokD=C at*
  unfold Gen.Zf Gen.Zw
  generalize Zz (binF gtD (binF subD (Zao lenD (Zb (Zd 1) Zj)) (bmF "list" Za8 (Zd 1) (Zb (Za (.str "]")) Zj))) (Za (.int 30)))=TF at*
  simp[-forD,c,tt,r]
 have r:forD (Zap 3) Gen.Ze (ts.map tokD) [some (.fz (.str (S L))),some (.fz (.lst (ts.map tokD))),some (.oL none [[]]),none]=some (.nx [some (.fz (.str (S L))),some (.fz (.lst (ts.map tokD))),some (.oL none ((lv++[qs]).map dsq)),x']):=r
 have l1:=Zb4 (i:=2) (δ:=[some (.fz (.str (S L))),some (.fz (.lst (ts.map tokD))),some (.oL none ((lv++[qs]).map dsq)),x']) (p:=none) (xss:=(lv++[qs]).map dsq) rfl
 cases lv with
 |cons ps lw=>
  refine .inl ?_
  have g1:(1:Int)<(((ps::lw++[qs]).map dsq).length:Int):=by simp;omega
  generalize (ps::lw++[qs]).map dsq=W at*
  generalize ts.map tokD=C at*
  unfold Gen.Zf Gen.Zw
  generalize Zz (binF gtD (binF subD (Zao lenD (Zb (Zd 1) Zj)) (bmF "list" Za8 (Zd 1) (Zb (Za (.str "]")) Zj))) (Za (.int 30)))=TF at*
  simp[-forD,c,tt,r,l1,g1]
 |nil=>
  have e1:tks qs=ts:=by
   have:lvT [qs]=lvT [[]]++ts:=a2
   rw[Zdh,Zdh]at this
   injection this
  have q:=a1.lev 0 qs rfl
  refine .inr ⟨qs,⟨q,by rw[e1];omega,by rw[e1,e];omega,?_⟩,by rw[e1,e],?_⟩
  ·have:=a1.few (lv:=[]);omega
  have l1:=Zb4 (i:=2) (δ:=[some (.fz (.str (S L))),some (.fz (.lst (ts.map tokD))),some (.oL none [dsq qs]),x']) (p:=none) (xss:=[dsq qs]) rfl
  have l2:=Zfp (i:=2) (δ:=[some (.fz (.str (S L))),some (.fz (.lst (ts.map tokD))),some (.oL none [dsq qs]),x']) (p:=none) (xss:=[]) (xs:=dsq qs) rfl
  have r:forD (Zap 3) Gen.Ze (ts.map tokD) [some (.fz (.str (S L))),some (.fz (.lst (ts.map tokD))),some (.oL none [[]]),none]=some (.nx [some (.fz (.str (S L))),some (.fz (.lst (ts.map tokD))),some (.oL none [dsq qs]),x']):=r
  generalize dsq qs=DS at*
  generalize ts.map tokD=C at*
  unfold Gen.Zf Gen.Zw
  generalize Zz (binF gtD (binF subD (Zao lenD (Zb (Zd 1) Zj)) (bmF "list" Za8 (Zd 1) (Zb (Za (.str "]")) Zj))) (Za (.int 30)))=TF at*
  simp[-forD,c,r,l1,l2,tt]
end My
namespace My
open DL PySem
noncomputable def spl(c:Nat):List Nat→List (List Nat)
 | []=>[[]]
 |a::l=>if a=c then[]::spl c l else match spl c l with
  |p::r=>(a::p)::r
  | []=>[[a]]
theorem Zkn(c:Nat):∀p:List Nat,c∉p→spl c p=[p]
 | [],_=>rfl
 |a::p,h=>by
  have e:=Zkn c p fun z=>h (List.mem_cons_of_mem _ z)
  have n:¬a=c:=fun z=>h (by rw[z];exact List.mem_cons_self)
  unfold spl
  rw[if_neg n,e]
theorem Zn7(c:Nat)(l:List Nat):∀p:List Nat,c∉p→spl c (p++c::l)=p::spl c l
 | [],_=>by
  show spl c (c::l)=_
  rw[spl,if_pos rfl]
 |a::p,h=>by
  have e:=Zn7 c l p fun z=>h (List.mem_cons_of_mem _ z)
  have n:¬a=c:=fun z=>h (by rw[z];exact List.mem_cons_self)
  show spl c (a::(p++c::l))=_
  rw[spl,if_neg n,e]
theorem Zn8(c:Nat):∀ns:List (List Nat),ns≠[]→(∀n∈ns,c∉n)→spl c (jl [c] ns)=ns
 | [],h,_=>absurd rfl h
 | [n],_,h=>Zkn c n (h n List.mem_cons_self)
 |n::m::r,_,h=>by
  show spl c (n++[c]++jl [c] (m::r))=_
  rw[List.append_assoc]
  show spl c (n++c::jl [c] (m::r))=_
  rw[Zn7 c _ n (h n List.mem_cons_self),Zn8 c (m::r) (by simp) fun p hp=>h p (List.mem_cons_of_mem _ hp)]
noncomputable def namB(l:List Nat):Bool:=Nat.ble 1 l.length&&Nat.ble l.length 8&&l.all abc&& !(l==[110,111,116,101])
theorem Nam.b{l:List Nat}(h:Nam l):namB l=true:=by
 unfold namB
 rw[h.2.2.1,Nat.ble_eq_true_of_le h.1,Nat.ble_eq_true_of_le h.2.1,beq_eq_false_iff_ne.mpr h.2.2.2]
 rfl
noncomputable def hanB:List (List Nat)→Bool
 | [n,[a],[b]]=>namB n&&dg9 a&&dg3 b
 |_=>false
noncomputable def okb(l:List Nat):Bool:=(Nat.ble (spl 124 l).length 4&&(spl 124 l).all namB)||hanB (spl 32 l)
noncomputable def inb(c:Nat):Bool:=abc c|| (Nat.ble 48 c&&Nat.ble c 57)||c==124||c==32
theorem Zxt{ns:List (List Nat)}(h0:ns≠[])(h1:ns.length≤4)(h2:∀n∈ns,Nam n):okb (jl [124] ns)=true:=by
 unfold okb
 rw[Zn8 124 ns h0 fun n hn=>(h2 n hn).no 124 (.inr (by decide)),Nat.ble_eq_true_of_le h1,List.all_eq_true.mpr fun n hn=>(h2 n hn).b]
 rfl
theorem Zxu{n:List Nat}{a b:Nat}(hn:Nam n)(h1:1≤a)(h2:a≤9)(h3:b≤2):okb (hdL n a b)=true:=by
 unfold okb hdL
 have e:spl 32 (jl [32] [n,[48+a],[48+b]])=[n,[48+a],[48+b]]:=Zn8 32 _ (by simp) fun m hm=>by
  rcases List.mem_cons.mp hm with z|z
  ·rw[z];exact hn.no 32 (.inl (by decide))
  rcases List.mem_cons.mp z with z|z
  ·rw[z];simp;omega
  ·rw[List.mem_singleton.mp z];simp;omega
 have d9:dg9 (48+a)=true:=by
  unfold dg9
  rw[Nat.ble_eq_true_of_le (by omega),Nat.ble_eq_true_of_le (by omega)];rfl
 have d3:dg3 (48+b)=true:=by
  unfold dg3
  rw[Nat.ble_eq_true_of_le (by omega),Nat.ble_eq_true_of_le (by omega)];rfl
 have g:hanB [n,[48+a],[48+b]]=(namB n&&dg9 (48+a)&&dg3 (48+b)):=rfl
 rw[e,g,hn.b,d9,d3]
 exact Bool.or_true _
theorem Zn9{c:Nat}(h:abc c=true):inb c=true:=by
 unfold inb;rw[h];rfl
theorem Zxv{ns:List (List Nat)}(h2:∀n∈ns,Nam n):∀c∈jl [124] ns,inb c=true:=fun c hc=>by
 rcases Zny ns hc with z|⟨n,hn,z⟩
 ·rw[List.mem_singleton.mp z];decide
 ·exact Zn9 (List.all_eq_true.mp (h2 n hn).2.2.1 c z)
theorem Zoa{a:Nat}(h:a≤9):inb (48+a)=true:=by
 unfold inb
 rw[Nat.ble_eq_true_of_le (by omega),Nat.ble_eq_true_of_le (by omega)]
 simp
theorem Zxw{n:List Nat}{a b:Nat}(hn:Nam n)(h2:a≤9)(h3:b≤2):∀c∈hdL n a b,inb c=true:=fun c hc=>by
 rcases Zny _ hc with z|⟨m,hm,z⟩
 ·rw[List.mem_singleton.mp z];decide
 ·rcases List.mem_cons.mp hm with y|y
  ·rw[y]at z;exact Zn9 (List.all_eq_true.mp hn.2.2.1 c z)
  rcases List.mem_cons.mp y with y|y
  ·rw[y]at z;rw[List.mem_singleton.mp z];exact Zoa h2
  ·rw[List.mem_singleton.mp y]at z;rw[List.mem_singleton.mp z];exact Zoa (by omega)
inductive Md where
 |nm|lo|br (l:List Nat)
noncomputable def stp(d:Nat)(m:Md)(c:Nat):Option (Nat×Md):=match m with
 | .br l=>if c=125 then(if okb l.reverse then some (d,.nm)else none)else if inb c then some (d,.br (c::l))else none
 | .nm=>if c=91 then(if d<3 then some (d+1,.lo)else none)else if c=93 then(match d with|e+1=>some (e,.nm)|0=>none)else if c=123 then some (d,.br [])else if sts c then some (d,.nm)else none
 | .lo=>if c=91 then(if d<3 then some (d+1,.lo)else none)else if c=93 then none else if c=123 then some (d,.br [])else if sts c then some (d,.nm)else none
noncomputable def scan:List Nat→Nat→Md→Option (Nat×Md)
 | [],d,m=>some (d,m)
 |c::l,d,m=>match stp d m c with
  |some (d',m')=>scan l d' m'
  |none=>none
theorem Za0{c:Nat}{l:List Nat}{d d':Nat}{m m':Md}(h:stp d m c=some (d',m')):scan (c::l) d m=scan l d' m':=by
 rw[scan,h]
theorem Zdi{c:Nat}{l:List Nat}{d:Nat}{m:Md}(h:stp d m c=none):scan (c::l) d m=none:=by
 rw[scan,h]
theorem Zfb:∀(a b:List Nat) (d:Nat) (m:Md),scan (a++b) d m=(scan a d m).bind fun p=>scan b p.1 p.2
 | [],b,d,m=>rfl
 |c::a,b,d,m=>by
  show scan (c::(a++b)) d m=_
  cases e:stp d m c with
  |none=>rw[Zdi e,Zdi e];rfl
  |some p=>rw[Za0 (d':=p.1) (m':=p.2) e,Za0 (d':=p.1) (m':=p.2) e,Zfb a b]
theorem Zje{a b:List Nat}{d d':Nat}{m m':Md}(h:scan a d m=some (d',m')):scan (a++b) d m=scan b d' m':=by
 rw[Zfb,h];rfl
noncomputable def Md.out:Md→Bool
 | .br _=>false
 |_=>true
theorem Zrn{d c:Nat}{m:Md}(hm:m.out=true)(h:sts c=true):stp d m c=some (d,.nm):=by
 have h1:¬c=91:=fun z=>by rw[z,Zcv.1]at h;cases h
 have h2:¬c=93:=fun z=>by rw[z,Zcv.2.1]at h;cases h
 have h3:¬c=123:=fun z=>by rw[z,Zcv.2.2]at h;cases h
 cases m with
 |br l=>cases hm
 |nm=>unfold stp;simp[h1,h2,h3,h]
 |lo=>unfold stp;simp[h1,h2,h3,h]
theorem Zob{d:Nat}:∀{l:List Nat} {m:Md},m.out=true→l≠[]→(∀c∈l,sts c=true)→scan l d m=some (d,.nm)
 | [],_,_,h,_=>absurd rfl h
 | [c],m,hm,_,h=>by rw[Za0 (Zrn hm (h c List.mem_cons_self))];rfl
 |c::e::l,m,hm,_,h=>by
  rw[Za0 (Zrn hm (h c List.mem_cons_self))]
  exact Zob (m:=.nm) rfl (by simp) fun x hx=>h x (List.mem_cons_of_mem _ hx)
theorem Zoc{d:Nat}:∀(l acc:List Nat),(∀c∈l,inb c=true)→okb (acc.reverse++l)=true→scan (l++[125]) d (.br acc)=some (d,.nm)
 | [],acc,_,h=>by
  rw[List.append_nil]at h
  show scan [125] d (.br acc)=_
  rw[Za0 (d':=d) (m':=.nm)]
  ·rfl
  ·unfold stp;simp[h]
 |c::l,acc,hi,h=>by
  have hc:=hi c List.mem_cons_self
  have n:¬c=125:=fun z=>by rw[z]at hc;exact absurd hc (by decide)
  show scan (c::(l++[125])) d (.br acc)=_
  rw[Za0 (d':=d) (m':=.br (c::acc))]
  ·exact Zoc l (c::acc) (fun x hx=>hi x (List.mem_cons_of_mem _ hx)) (by rw[List.reverse_cons,List.append_assoc];exact h)
  ·unfold stp;simp[n,hc]
theorem Zko{d:Nat}{m:Md}{l:List Nat}(hm:m.out=true)(hi:∀c∈l,inb c=true)(h:okb l=true):scan (flat [.br l]) d m=some (d,.nm):=by
 have e:flat [Tk.br l]=123::(l++[125]):=by show 123::(l++[125])++[]=_;simp
 rw[e,Za0 (d':=d) (m':=.br [])]
 ·exact Zoc l [] hi h
 ·cases m with
  |br l=>cases hm
  |nm=>rfl
  |lo=>rfl
theorem Zjf{n d:Nat}(one:∀(q:Q) (m:Md),Pie n q.1 q.2→m.out=true→scan (flat q.2) d m=some (d,.nm)):∀(qs:List Q) (m:Md),(∀q∈qs,Pie n q.1 q.2)→m.out=true→qs≠[]→scan (flat (tks qs)) d m=some (d,.nm)
 | [],_,_,_,h=>absurd rfl h
 | [q],m,h,hm,_=>by
  have e:tks [q]=q.2:=by unfold tks;simp
  rw[e]
  exact one q m (h q List.mem_cons_self) hm
 |q::p::r,m,h,hm,_=>by
  have e:tks (q::p::r)=q.2++tks (p::r):=rfl
  rw[e,Zb5,Zje (one q m (h q List.mem_cons_self) hm)]
  exact Zjf one (p::r) .nm (fun x hx=>h x (List.mem_cons_of_mem _ hx)) rfl (by simp)
theorem Zkp:∀(n d:Nat) (q:Q) (m:Md),d+n≤4→Pie n q.1 q.2→m.out=true→scan (flat q.2) d m=some (d,.nm)
 |0,_,_,_,_,h,_=>h.elim
 |n+1,d,q,m,hd,h,hm=>by
  rcases h with⟨l,h1,_,e⟩|⟨ns,h0,h1,h2,_,e⟩|⟨nm,a,b,h1,h2,h3,h4,_,e⟩|⟨qs,h0,h1,h2,_,e⟩
  ·rw[e]
   have e:flat [Tk.sg l]=l:=by show l++[]=l;simp
   rw[e]
   exact Zob hm h1.1 fun c hc=>(h1.2.2 c hc).2
  ·rw[e];exact Zko hm (Zxv h2) (Zxt h0 h1 h2)
  ·rw[e];exact Zko hm (Zxw h1 h3 h4) (Zxu h1 h2 h3 h4)
  ·have n1:1≤n:=by
    cases n with
    |succ k=>omega
    |zero=>
     cases qs with
     |nil=>exact absurd rfl h0
     |cons q r=>exact(h2 q List.mem_cons_self).elim
   have e2:flat q.2=91::(flat (tks qs)++[93]):=by
    rw[e,Zdg,Zb5];rfl
   rw[e2,Za0 (d':=d+1) (m':=.lo)]
   ·rw[Zje (Zjf (n:=n) (fun q m hq hm=>Zkp n (d+1) q m (by omega) hq hm) qs .lo h2 rfl h0)]
    rfl
   ·have:d<3:=by omega
    cases m with
    |br l=>cases hm
    |nm=>unfold stp;simp[this]
    |lo=>unfold stp;simp[this]
theorem Zkq{qs:List Q}(h:∀q∈qs,Pie 4 q.1 q.2):scan (flat (tks qs)) 0 .nm=some (0,.nm):=by
 cases qs with
 |nil=>rfl
 |cons q r=>exact Zjf (n:=4) (fun q m hq hm=>Zkp 4 0 q m (by omega) hq hm) (q::r) .nm h rfl (by simp)
noncomputable def badc(c:Nat):Bool:=!(inb c||sts c||c==91||c==93||c==123||c==125)
theorem Zt3{c d:Nat}{m:Md}(h:badc c=true):stp d m c=none:=by
 unfold badc at h
 rw[Bool.not_eq_true',Bool.or_eq_false_iff,Bool.or_eq_false_iff,Bool.or_eq_false_iff,Bool.or_eq_false_iff,Bool.or_eq_false_iff]at h
 obtain⟨⟨⟨⟨⟨h1,h2⟩,h3⟩,h4⟩,h5⟩,h6⟩:=h
 have h3:=beq_eq_false_iff_ne.mp h3
 have h4:=beq_eq_false_iff_ne.mp h4
 have h5:=beq_eq_false_iff_ne.mp h5
 have h6:=beq_eq_false_iff_ne.mp h6
 cases m<;> unfold stp<;> simp[h1,h2,h3,h4,h5,h6]
theorem Zp9{c:Nat}(h:badc c=true)(a b:List Nat)(d:Nat)(m:Md):scan (a++c::b) d m=none:=by
 rw[Zfb]
 cases scan a d m with
 |none=>rfl
 |some p=>exact Zdi (Zt3 h)
theorem Zod(a b:List Nat)(d:Nat)(m:Md):scan (a++91::93::b) d m=none:=by
 rw[Zfb]
 cases scan a d m with
 |none=>rfl
 |some p=>
  obtain⟨d,m⟩:=p
  show scan (91::93::b) d m=none
  cases m with
  |br l=>exact Zdi (by unfold stp;simp;decide)
  |nm=>
   by_cases h:d<3
   ·rw[Za0 (d':=d+1) (m':=.lo) (by unfold stp;simp[h])];exact Zdi rfl
   ·exact Zdi (by unfold stp;simp[h])
  |lo=>
   by_cases h:d<3
   ·rw[Za0 (d':=d+1) (m':=.lo) (by unfold stp;simp[h])];exact Zdi rfl
   ·exact Zdi (by unfold stp;simp[h])
theorem noT{L:List Nat}(hL:L.length≤15000)(ha:Asc L)(h:scan L 0 .nm≠some (0,.nm)):Gen.Zf [.str (S L)]=some (.x NS):=by
 rcases Zn6 L hL ha with e|⟨qs,ht,ef,_⟩
 ·exact e
 ·exact absurd (ef▸Zkq ht.lev.pie) h
end My
namespace My
open DL PySem
theorem Zoe{L:List Nat}(hL:L.length≤15000):∀(ts:List Tk) (p:Bool) (pre:List Nat) (cs:List D) (x:Option SV) (n:Nat),L=pre++flat ts→Gd p ts→ts.length<n→cs.length+ts.length≤20000→
  ∃x',Zbk Gen.Zae Gen.Zam n [some (.fz (.str (S L))),some (.ol cs),some (.fz (.int (pre.length:Int))),x]=some (.nx [some (.fz (.str (S L))),some (.ol (cs++ts.map tokD)),some (.fz (.int (L.length:Int))),x'])
 |_,_,_,_,_,0,_,_,h,_=>by omega
 | [],p,pre,cs,x,n+1,e,_,_,_=>by
  have z:L.length≤PySem.sizeLine:=Zh (by omega)
  have e':L=pre:=by rw[e];exact List.append_nil _
  refine⟨x,?_⟩
  rw[List.map_nil,List.append_nil,←e']
  refine Zel ?_
  unfold Gen.Zae
  simp[Z0,z]
 |t::ts,p,pre,cs,x,n+1,e,⟨g1,g2,g3⟩,hn,hc=>by
  have z:L.length≤PySem.sizeLine:=Zh (by omega)
  have e0:L=pre++(t.l++flat ts):=e
  have ce:=Zrc (L:=L) (pre:=pre) (rest:=flat ts) t (by omega) e0 g1 fun h=>Zlk g3 h
  have sm:=Zfu pre t.l (flat ts)
  rw[←e0]at sm
  obtain⟨c,r,ec,_,_,_⟩:=t.first g1
  have tl:1≤t.l.length:=by rw[ec];simp
  have lt:(pre.length:Int)<(L.length:Int):=by rw[e0,List.length_append,List.length_append];omega
  have tt:Gen.Zae [some (.fz (.str (S L))),some (.ol cs),some (.fz (.int (pre.length:Int))),x]=some (true,[some (.fz (.str (S L))),some (.ol cs),some (.fz (.int (pre.length:Int))),x]):=by
   unfold Gen.Zae
   simp[Z0,z,lt]
  rw[List.length_cons]at hn hc
  have zc:cs.length<PySem.sizeLine:=Zdu (by omega)
  have hb:Gen.Zam [some (.fz (.str (S L))),some (.ol cs),some (.fz (.int (pre.length:Int))),x]=some (.nx [some (.fz (.str (S L))),some (.ol (cs++[.str (S t.l)])),some (.fz (.int ((pre.length+t.l.length:Nat):Int))),some (.fz (.int ((pre.length+t.l.length:Nat):Int)))]):=by
   generalize ((pre.length+t.l.length:Nat):Int)=P at*
   unfold Gen.Zam
   simp[Z0,z,ce,sm,zc]
  rw[Zfq tt hb]
  have el:((pre.length+t.l.length:Nat):Int)=((pre++t.l).length:Int):=by rw[List.length_append]
  rw[el]
  obtain⟨x',ih⟩:=Zoe hL ts t.isSg (pre++t.l) (cs++[.str (S t.l)]) (some (.fz (.int ((pre++t.l).length:Int)))) n (by rw[e0,List.append_assoc]) g3 (by omega) (by rw[List.length_append,List.length_singleton];omega)
  refine⟨x',?_⟩
  have em:cs++(t::ts).map tokD=cs++[.str (S t.l)]++ts.map tokD:=by
   rw[List.map_cons,List.append_assoc];rfl
  rw[em]
  exact ih
theorem Zro(ts:List Tk)(g:Gd false ts)(hL:(flat ts).length≤15000)(hn:ts.length≤900):Gen.Zas [.str (S (flat ts))]=some (.v (.ol (ts.map tokD))):=by
 have e0:(([]:List Nat).length:Int)=0:=rfl
 obtain⟨x',h⟩:=Zoe hL ts false [] [] none 20000 rfl g (by omega) (by simp;omega)
 rw[e0,List.nil_append]at h
 unfold Gen.Zas Gen.Zdb
 simp[h]
theorem Zio(L:List Nat)(ts:List Tk)(ok:∀t∈ts,t.ok)(hn:ts.length≤900):Zz (binF gtD (binF subD (Zao lenD (Zb (Zd 1) Zj)) (bmF "list" Za8 (Zd 1) (Zb (Za (.str "]")) Zj))) (Za (.int 30))) [some (.fz (.str (S L))),some (.ol (ts.map tokD)),none,none]=some (decide (30<nc ts),[some (.fz (.str (S L))),some (.ol (ts.map tokD)),none,none]):=by
 have cc:=Zg3 ts ok
 have fl:=Zkj ts
 have hlen:(ts.map tokD).length=ts.length:=by rw[List.length_map]
 have nl:=Zrm ts
 have zc:(ts.map tokD).length≤PySem.sizeLine:=Zh (by omega)
 have k:∀C:List D,C=ts.map tokD→bmF "list" Za8 (Zd 1) (Zb (Za (.str "]")) Zj) [some (.fz (.str (S L))),some (.ol C),none,none]=some (.tmp (.fz (.int (ts.countP Tk.isCl:Nat))),[some (.fz (.str (S L))),some (.ol C),none,none]):=fun C hC=>by
  have e:Za8 [.lst C,.str "]"]=some (.fz (.int (ts.countP Tk.isCl:Nat))):=by
   subst hC
   show(if _ then _ else _)=_
   rw[if_pos ⟨rfl,fl⟩,←cc,←cl_S]
  simp[-Za8,e]
 have k:=k _ rfl
 have hP:((ts.map tokD).length:Int)- (ts.countP Tk.isCl:Nat)=(nc ts:Int):=by omega
 have hd:decide ((30:Int)<(nc ts:Int))=decide (30<nc ts):=decide_eq_decide.mpr (by omega)
 generalize bmF "list" Za8 (Zd 1) (Zb (Za (.str "]")) Zj)=KF at*
 generalize ts.map tokD=C at*
 simp[k,hP,hd]
theorem Zxx(ts:List Tk)(g:Gd false ts)(hL:(flat ts).length≤15000)(hn:ts.length≤900)(h30:30<nc ts):Gen.Zf [.str (S (flat ts))]=some (.x NS):=by
 have c:=Zro ts g hL hn
 have tt:=Zio (flat ts) ts g.ok hn
 rw[decide_eq_true h30]at tt
 generalize ts.map tokD=C at*
 generalize flat ts=L at*
 unfold Gen.Zf Gen.Zw
 generalize Zz (binF gtD (binF subD (Zao lenD (Zb (Zd 1) Zj)) (bmF "list" Za8 (Zd 1) (Zb (Za (.str "]")) Zj))) (Za (.int 30)))=TF at*
 simp[-forD,c,tt]
noncomputable abbrev nA:List Nat:=[97]
noncomputable abbrev nTI:List Nat:=[116,105,116,108,101]
noncomputable abbrev nBP:List Nat:=[98,111,111,107,124,112,97,114,116]
noncomputable abbrev nHA:List Nat:=[104,97,110,100,115,32,50,32,49]
noncomputable abbrev nPA:List Nat:=[112,97,103,101,115]
noncomputable abbrev nAD:List Nat:=[97,124,98,124,99,124,100]
noncomputable abbrev nX9:List Nat:=[120,32,57,32,48]
noncomputable def dA:D:=fdD [Str.ofString "a"]
noncomputable def dTI:D:=fdD [Str.ofString "title"]
noncomputable def dBP:D:=fdD [Str.ofString "book",Str.ofString "part"]
noncomputable def dHA:D:=.tup [.str HDS,.str (Str.ofString "hands"),.int 2,.int 1]
noncomputable def dPA:D:=fdD [Str.ofString "pages"]
noncomputable def dAD:D:=fdD [Str.ofString "a",Str.ofString "b",Str.ofString "c",Str.ofString "d"]
noncomputable def dX9:D:=.tup [.str HDS,.str (Str.ofString "x"),.int 9,.int 0]
noncomputable def TAB:List (List Nat×D):=[(nA,dA),(nTI,dTI),(nBP,dBP),(nHA,dHA),(nPA,dPA),(nAD,dAD),(nX9,dX9)]
theorem Zxy:∀p∈TAB,Gen.Zm [tokD (.br p.1)]=some (.v (.fz p.2)):=by
 intro p hp
 unfold TAB at hp
 simp only[List.mem_cons,List.not_mem_nil,or_false]at hp
 rcases hp with rfl|rfl|rfl|rfl|rfl|rfl|rfl<;> kernel_rfl
noncomputable def rdB(l:List Nat):List (List Nat×D)→Option D
 | []=>none
 |p::r=>if p.1==l then some p.2 else rdB l r
theorem Zrp{l:List Nat}{d:D}:∀r:List (List Nat×D),rdB l r=some d→(l,d)∈r
 | [],h=>nomatch h
 |p::r,h=>by
  unfold rdB at h
  split at h
  ·rename_i e
   cases h
   rw[←eq_of_beq e]
   exact List.mem_cons_self
  ·exact List.mem_cons_of_mem _ (Zrp r h)
noncomputable def rdT:Tk→Option D
 | .sg l=>some (sgD l)
 | .br l=>rdB l TAB
 |_=>none
theorem Zxz{t:Tk}{d:D}(ht:t.ok)(h:rdT t=some d):(¬S t.l=S [91])∧(¬S t.l=S [93])∧Gen.Zm [tokD t]=some (.v (.fz d)):=by
 cases t with
 |op=>cases h
 |cl=>cases h
 |sg l=>cases h;exact⟨(Zn4 ht).1,(Zn4 ht).2,Zrd ht⟩
 |br l=>exact⟨(Zn3 l).1,(Zn3 l).2,Zxy (l,d) (Zrp TAB h)⟩
noncomputable def app1:List (List D)→Option D→Option (List (List D))
 |xs::r,some d=>some ((xs++[d])::r)
 |_,_=>none
noncomputable def sst(t:Tk)(st:List (List D)):Option (List (List D)):=match t with
 | .op=>if Nat.ble st.length 3 then some ([]::st)else none
 | .cl=>match st with
  |xs::ys::r=>if xs.isEmpty then none else some ((ys++[grD xs])::r)
  |_=>none
 |t=>app1 st (rdT t)
noncomputable def sim:List Tk→List (List D)→Option (List (List D))
 | [],st=>some st
 |t::ts,st=>match sst t st with
  |some st'=>sim ts st'
  |none=>none
theorem Zx0{t:Tk}{st st':List (List D)}(h1:t≠.op)(h2:t≠.cl)(h:sst t st=some st'):∃xs r d,st=xs::r∧rdT t=some d∧st'=(xs++[d])::r:=by
 have h:app1 st (rdT t)=some st':=by
  cases t with
  |op=>exact absurd rfl h1
  |cl=>exact absurd rfl h2
  |sg l=>exact h
  |br l=>exact h
 cases st with
 |nil=>cases h
 |cons xs r=>
  cases e:rdT t with
  |none=>rw[e]at h;cases h
  |some d=>rw[e]at h;cases h;exact⟨xs,r,d,rfl,rfl,rfl⟩
theorem Zt4(A B:Option SV){t:Tk}{st st':List (List D)}{N:Nat}(hN:N≤900)(ht:t.ok)(h:sst t st=some st')(h4:st.length≤4)(hl:∀xs∈st,xs.length+(N+1)≤1000):
  st'.length≤4∧(∀xs∈st',xs.length+N≤1000)∧Gen.Ze [A,B,some (.oL none st.reverse),some (.fz (tokD t))]=some (.nx [A,B,some (.oL none st'.reverse),some (.fz (tokD t))]):=by
 by_cases h1:t= .op
 ·subst h1
  have h:(if Nat.ble st.length 3 then some ([]::st)else none)=some st':=h
  split at h
  ·rename_i e
   cases h
   have e:=Nat.le_of_ble_eq_true e
   refine⟨by rw[List.length_cons];omega,fun xs hx=>?_,?_⟩
   ·rcases List.mem_cons.mp hx with z|z
    ·rw[z,List.length_nil];omega
    ·have:=hl xs z;omega
   ·rw[List.reverse_cons]
    exact Zrg A B st.reverse (by rw[List.length_reverse];exact e)
  ·cases h
 by_cases h2:t= .cl
 ·subst h2
  match st,h with
  |xs::ys::r,h=>
   have h:(if xs.isEmpty then none else some ((ys++[grD xs])::r))=some st':=h
   split at h
   ·cases h
   ·rename_i e
    cases h
    have hx:xs≠[]:=fun z=>e (by rw[z];rfl)
    have l1:=hl xs List.mem_cons_self
    have l2:=hl ys (List.mem_cons_of_mem _ List.mem_cons_self)
    rw[List.length_cons,List.length_cons]at h4
    refine⟨by rw[List.length_cons];omega,fun zs hz=>?_,?_⟩
    ·rcases List.mem_cons.mp hz with z|z
     ·rw[z,List.length_append,List.length_singleton];omega
     ·have:=hl zs (List.mem_cons_of_mem _ (List.mem_cons_of_mem _ z));omega
    ·rw[List.reverse_cons,List.reverse_cons,List.reverse_cons]
     exact Zrh A B r.reverse ys xs hx (by omega) (by omega) (by rw[List.length_reverse];omega)
 ·obtain⟨xs,r,d,rfl,hr,rfl⟩:=Zx0 h1 h2 h
  obtain⟨n1,n2,hp⟩:=Zxz ht hr
  have l1:=hl xs List.mem_cons_self
  refine⟨h4,fun zs hz=>?_,?_⟩
  ·rcases List.mem_cons.mp hz with z|z
   ·rw[z,List.length_append,List.length_singleton];omega
   ·have:=hl zs (List.mem_cons_of_mem _ z);omega
  ·rw[List.reverse_cons,List.reverse_cons]
   exact Zri A B t d r.reverse xs n1 n2 hp (by omega)
theorem Zof(A B:Option SV):∀(ts:List Tk) (st st':List (List D)) (x:Option SV),(∀t∈ts,t.ok)→sim ts st=some st'→ts.length≤900→st.length≤4→(∀xs∈st,xs.length+ts.length≤1000)→
  ∃x',forD (Zap 3) Gen.Ze (ts.map tokD) [A,B,some (.oL none st.reverse),x]=some (.nx [A,B,some (.oL none st'.reverse),x'])
 | [],st,st',x,_,h,_,_,_=>by cases h;exact⟨x,rfl⟩
 |t::ts,st,st',x,ok,h,hn,h4,hl=>by
  rw[List.length_cons]at hn hl
  cases e:sst t st with
  |none=>rw[sim,e]at h;cases h
  |some s1=>
   rw[sim,e]at h
   obtain⟨a1,a2,a3⟩:=Zt4 A B (by omega) (ok t List.mem_cons_self) e h4 hl
   obtain⟨x',ih⟩:=Zof A B ts s1 st' (some (.fz (tokD t))) (fun u hu=>ok u (List.mem_cons_of_mem _ hu)) h (by omega) a1 a2
   refine⟨x',?_⟩
   have run:(Zap 3).run (tokD t) [A,B,some (.oL none st.reverse),x]=some [A,B,some (.oL none st.reverse),some (.fz (tokD t))]:=by simp
   rw[List.map_cons]
   exact(Zdv run a3).trans ih
theorem Zrq(ts:List Tk)(ds:List D)(g:Gd false ts)(hL:(flat ts).length≤15000)(hn:ts.length≤900)(h30:nc ts≤30)(hs:sim ts [[]]=some [ds]):Gen.Zf [.str (S (flat ts))]=some (.v (.fz (.tup ds))):=by
 have c:=Zro ts g hL hn
 have tt:=Zio (flat ts) ts g.ok hn
 rw[decide_eq_false (by omega)]at tt
 obtain⟨x',r⟩:=Zof (some (.fz (.str (S (flat ts))))) (some (.fz (.lst (ts.map tokD)))) ts [[]] [ds] none g.ok hs hn (by decide) (fun xs hx=>by rw[List.mem_singleton.mp hx,List.length_nil];omega)
 have r:forD (Zap 3) Gen.Ze (ts.map tokD) [some (.fz (.str (S (flat ts)))),some (.fz (.lst (ts.map tokD))),some (.oL none [[]]),none]=some (.nx [some (.fz (.str (S (flat ts)))),some (.fz (.lst (ts.map tokD))),some (.oL none [ds]),x']):=r
 have l1:=Zb4 (i:=2) (δ:=[some (.fz (.str (S (flat ts)))),some (.fz (.lst (ts.map tokD))),some (.oL none [ds]),x']) (p:=none) (xss:=[ds]) rfl
 have l2:=Zfp (i:=2) (δ:=[some (.fz (.str (S (flat ts)))),some (.fz (.lst (ts.map tokD))),some (.oL none [ds]),x']) (p:=none) (xss:=[]) (xs:=ds) rfl
 generalize ts.map tokD=C at*
 generalize flat ts=L at*
 unfold Gen.Zf Gen.Zw
 generalize Zz (binF gtD (binF subD (Zao lenD (Zb (Zd 1) Zj)) (bmF "list" Za8 (Zd 1) (Zb (Za (.str "]")) Zj))) (Za (.int 30)))=TF at*
 simp[-forD,c,r,l1,l2,tt]
noncomputable def mrg:Tk→List Tk→List Tk
 | .sg a,.sg b::r=>.sg (a++b)::r
 |t,r=>t::r
theorem Zqa(t:Tk)(r:List Tk):flat (mrg t r)=t.l++flat r:=by
 unfold mrg
 split
 ·rename_i a b r
  show a++b++flat r=a++(b++flat r)
  exact List.append_assoc _ _ _
 ·rfl
noncomputable def nrm:List Tk→List Tk
 | []=>[]
 |t::r=>mrg t (nrm r)
theorem Zkr:∀ts:List Tk,flat (nrm ts)=flat ts
 | []=>rfl
 |t::r=>by
  rw[nrm,Zqa,Zkr r,Zdg]
noncomputable def okB:Tk→Bool
 | .sg l=>!l.isEmpty&&Nat.ble l.length 15000&&l.all fun c=>Nat.blt c 128&&sts c
 | .br l=>!(l.contains 125)&&Nat.ble l.length 15000
 |_=>true
theorem Zx1{t:Tk}(h:okB t=true):t.ok:=by
 cases t with
 |op=>trivial
 |cl=>trivial
 |sg l=>
  have h:(!l.isEmpty&&Nat.ble l.length 15000&&l.all fun c=>Nat.blt c 128&&sts c)=true:=h
  rw[Bool.and_eq_true,Bool.and_eq_true]at h
  refine⟨fun z=>?_,Nat.le_of_ble_eq_true h.1.2,fun c hc=>?_⟩
  ·rw[z]at h;exact absurd h.1.1 (by decide)
  ·have:=List.all_eq_true.mp h.2 c hc
   rw[Bool.and_eq_true]at this
   exact⟨Nat.le_of_ble_eq_true this.1,this.2⟩
 |br l=>
  have h:(!(l.contains 125)&&Nat.ble l.length 15000)=true:=h
  rw[Bool.and_eq_true,Bool.not_eq_true']at h
  exact⟨fun z=>by rw[List.contains_iff_mem.mpr z]at h;exact absurd h.1 (by decide),Nat.le_of_ble_eq_true h.2⟩
noncomputable def gdB:Bool→List Tk→Bool
 |_,[]=>true
 |p,t::r=>okB t&& !(p&&t.isSg)&&gdB t.isSg r
theorem Zks:∀{p:Bool} {ts:List Tk},gdB p ts=true→Gd p ts
 |_,[],_=>trivial
 |p,t::r,h=>by
  unfold gdB at h
  rw[Bool.and_eq_true,Bool.and_eq_true]at h
  refine⟨Zx1 h.1.1,fun z=>?_,Zks h.2⟩
  rw[z.1,z.2]at h
  exact absurd h.1.2 (by decide)
noncomputable def Zx2:Option (List (List D))→Bool
 |some [_]=>true
 |_=>false
noncomputable def chk(ts:List Tk):Bool:=gdB false ts&&Nat.ble (flat ts).length 15000&&Nat.ble ts.length 900&&Nat.ble (nc ts) 30&&Zx2 (sim ts [[]])
theorem Zx3{ts:List Tk}(h:chk ts=true):∃ds,Gen.Zf [.str (S (flat ts))]=some (.v (.fz (.tup ds))):=by
 unfold chk at h
 rw[Bool.and_eq_true,Bool.and_eq_true,Bool.and_eq_true,Bool.and_eq_true]at h
 obtain⟨⟨⟨⟨h1,h2⟩,h3⟩,h4⟩,h5⟩:=h
 have:∀o:Option (List (List D)),Zx2 o=true→∃ds,o=some [ds]:=by
  intro o ho
  match o,ho with
  |some [ds],_=>exact⟨ds,rfl⟩
 obtain⟨ds,e⟩:=this _ h5
 exact⟨ds,Zrq ts ds (Zks h1) (Nat.le_of_ble_eq_true h2) (Nat.le_of_ble_eq_true h3) (Nat.le_of_ble_eq_true h4) e⟩
noncomputable abbrev TT8:List (List Tk):=[[],[.sg [97,58,32]],[.br nTI],[.op,.br nBP,.sg [44,32],.cl],[.br nHA,.sg [32,40,120,41]],[.op,.sg [112,46,32],.op,.br nPA,.sg [59,32],.op,.br nA,.cl,.cl,.cl],[.br nAD],[.br nX9]]
noncomputable abbrev T8:List Str:=["","a: ","{title}","[{book|part}, ]","{hands 2 1} (x)","[p. [{pages}; [{a}]]]","{a|b|c|d}","{x 9 0}"]
theorem t8_S:T8=TT8.map fun ts=>S (flat ts):=by decide+kernel
theorem Zqb:(TT8.all fun a=>TT8.all fun b=>TT8.all fun c=>chk (nrm (a++(b++c))))=true:=by decide+kernel
theorem Zog:∀ts∈TT8,(flat ts).length≤21∧∀c∈flat ts,c<128:=by decide+kernel
structure Base(L:List Nat):Prop where
 asc:Asc L
 len:L.length≤63
 rd:∃qs,Tmp qs∧flat (tks qs)=L∧Gen.Zf [.str (S L)]=some (.v (.fz (.tup (dsq qs))))
theorem Zt5{a b c:List Tk}(ha:a∈TT8)(hb:b∈TT8)(hc:c∈TT8):Base (flat a++(flat b++flat c)):=by
 obtain⟨l1,s1⟩:=Zog a ha
 obtain⟨l2,s2⟩:=Zog b hb
 obtain⟨l3,s3⟩:=Zog c hc
 have hA:Asc (flat a++(flat b++flat c)):=fun x hx=>by
  rcases List.mem_append.mp hx with z|z
  ·exact s1 x z
  rcases List.mem_append.mp z with z|z
  ·exact s2 x z
  ·exact s3 x z
 have hl:(flat a++(flat b++flat c)).length≤63:=by rw[List.length_append,List.length_append];omega
 obtain⟨ds,e⟩:=Zx3 (List.all_eq_true.mp (List.all_eq_true.mp (List.all_eq_true.mp Zqb a ha) b hb) c hc)
 rw[Zkr,Zb5,Zb5]at e
 refine⟨hA,hl,?_⟩
 rcases Zn6 _ (by omega) hA with z|z
 ·rw[z]at e;cases e
 ·exact z
theorem Base.scan{L:List Nat}(h:Base L):My.scan L 0 .nm=some (0,.nm):=by
 obtain⟨qs,ht,e,_⟩:=h.rd
 rw[←e]
 exact Zkq ht.lev.pie
theorem Base.back{L:List Nat}(h:Base L):∃ds,Gen.Zag [.str (S L)]=some (.fz (.tup ds))∧Gen.Zaa [.tup ds]=some (.fz (.str (S L))):=by
 obtain⟨qs,ht,e,r⟩:=h.rd
 refine⟨dsq qs,by unfold Gen.Zag valG;rw[r],?_⟩
 have:=Z1u qs ht.lev.pie ht.most ht.len
 show Gen.Zaa [.tup (qs.map (·.1))]=_
 rw[this]
 show some (SV.fz (.str (S (flat (tks qs)))))=_
 rw[e]
end My
namespace My
open DL PySem
theorem at8(x:Int):∃ts∈TT8,L2.atI (T8.map D.str) (x % 8)=some (.str (S (flat ts))):=by
 obtain⟨d,hd,e⟩:=Zie (T8.map D.str) x 8 (by rw[List.length_map];decide) (by decide)
 rw[t8_S,List.map_map]at hd
 obtain⟨ts,h,rfl⟩:=List.mem_map.mp hd
 exact⟨ts,h,e⟩
theorem Zt6(m:Int):∃L,Base L∧Gen.Zcd [.int m]=some (.fz (.str (S L))):=by
 obtain⟨a,ha,e1⟩:=at8 m
 obtain⟨b,hb,e2⟩:=at8 (m / 8)
 obtain⟨c,hc,e3⟩:=at8 (m / 64)
 have B:=Zt5 ha hb hc
 refine⟨_,B,?_⟩
 have l:=B.len
 rw[List.length_append,List.length_append]at l
 have z8:8≤PySem.sizeLine:=Zh (by decide)
 have z1:(flat a).length+(flat b).length≤PySem.sizeLine:=Zh (by omega)
 have z2:(flat a).length+(flat b).length+(flat c).length≤PySem.sizeLine:=Zh (by omega)
 generalize flat a=A at*
 generalize flat b=C at*
 generalize flat c=E at*
 simp only[T8,List.map_cons,List.map_nil]at e1 e2 e3
 unfold Gen.Zcd Gen.Zeq
 simp[e1,e2,e3,z8,Z0,Zcy,z1,z2]
theorem Zx4(L:List Nat)(x:Int):∃u v,L=u++v∧Txt.slice (S L) none (some (x % ((L.length:Int)+1)))=S u∧Txt.slice (S L) (some (x % ((L.length:Int)+1))) none=S v:=by
 have h0:0≤x % ((L.length:Int)+1):=Int.emod_nonneg _ (by omega)
 have h1:x % ((L.length:Int)+1)<(L.length:Int)+1:=Int.emod_lt_of_pos _ (by omega)
 obtain⟨j,hj⟩:=Int.eq_ofNat_of_zero_le h0
 rw[hj]at h1⊢
 have hl:j≤L.length:=by omega
 refine⟨L.take j,L.drop j,(List.take_append_drop j L).symm,?_,?_⟩
 ·refine(StrLaws.sliceText_to ⟨by omega,by rw[Zad];omega⟩).trans ?_
  rw[Zad,List.drop_zero,show((j:Int)- 0).toNat=j by omega]
 ·refine(StrLaws.sliceText_from ⟨by omega,by rw[Zad];omega⟩).trans ?_
  rw[Zad,Int.toNat_natCast,show((L.length:Int)- (j:Int)).toNat=L.length- j by omega,List.take_of_length_le (by rw[List.length_drop];omega)]
noncomputable def isz:Option (Nat×Md)→Bool
 |some (0,.nm)=>true
 |_=>false
theorem Zx5{o:Option (Nat×Md)}(h:isz o=false):o≠some (0,.nm):=fun z=>by
 rw[z]at h;cases h
structure Spo(t:List Nat):Prop where
 no:Gen.Zf [.str (S t)]=some (.x NS)
noncomputable abbrev BDS:Str:="<>^@#~_\"$\\\n\t"
theorem Zt7:∀c∈BDS.cps.toList,badc c=true∧c<128:=by decide+kernel
theorem Zt8:BDS.cps.toList.length=12:=by decide+kernel
section
variable{L:List Nat}(B:Base L)
include B
theorem spo0{u v:List Nat}{k:Nat}(e:L=u++v)(hk:k∈BDS.cps.toList):Spo (u++k::v):=by
 obtain⟨h1,h2⟩:=Zt7 k hk
 have hl:=B.len
 have ha:=B.asc
 rw[e]at hl ha
 rw[List.length_append]at hl
 refine⟨noT (by rw[List.length_append,List.length_cons];omega) (fun c hc=>?_) ?_⟩
 ·rcases List.mem_append.mp hc with z|z
  ·exact ha c (List.mem_append_left _ z)
  rcases List.mem_cons.mp z with z|z
  ·rw[z];exact h2
  ·exact ha c (List.mem_append_right _ z)
 ·rw[Zp9 h1];exact fun z=>nomatch z
theorem spo1{u v:List Nat}(e:L=u++v):Spo (u++91::93::v):=by
 have hl:=B.len
 have ha:=B.asc
 rw[e]at hl ha
 rw[List.length_append]at hl
 refine⟨noT (by rw[List.length_append,List.length_cons,List.length_cons];omega) (fun c hc=>?_) ?_⟩
 ·rcases List.mem_append.mp hc with z|z
  ·exact ha c (List.mem_append_left _ z)
  rcases List.mem_cons.mp z with z|z
  ·rw[z];decide
  rcases List.mem_cons.mp z with z|z
  ·rw[z];decide
  ·exact ha c (List.mem_append_right _ z)
 ·rw[Zod];exact fun z=>nomatch z
theorem spoW{w:List Nat}(hw:isz (scan w 0 .nm)=false)(hl:w.length≤14000)(ha:Asc w):Spo (L++w):=by
 have h1:=B.len
 refine⟨noT (by rw[List.length_append];omega) (fun c hc=>?_) ?_⟩
 ·rcases List.mem_append.mp hc with z|z
  ·exact B.asc c z
  ·exact ha c z
 ·rw[Zje B.scan];exact Zx5 hw
end
noncomputable abbrev W2S:List Str:=["]","[","{","}","[a","{a","a]","a}","[[a]","[{a]}","{[a]}"]
noncomputable abbrev W3S:List Str:=["[[[[a]]]]","[[[[{a}]x]]]","a[b[c[d[e]]]]"]
noncomputable abbrev W4S:List Str:=["{}","{A}","{note}","{a|}","{|a}","{a|b|c|d|e}","{abcdefghi}","{ a}","{a }","{a1}","{a|note}"]
noncomputable abbrev W5S:List Str:=["{a 0 1}","{a 10 1}","{a 1 3}","{a 1}","{a  1 1}","{a|b 1 1}","{note 1 1}","{a 1 1 1}","{a 1 01}","{a x 1}","{a 1 -}","{ 1 1}","{a 1 }"]
noncomputable def badW(s:Str):Bool:=!(isz (scan s.cps.toList 0 .nm))&&Nat.ble s.length 20&&s.cps.toList.all fun c=>Nat.blt c 128
theorem Zx6:W2S.all badW=true:=by decide+kernel
theorem Zx7:W3S.all badW=true:=by decide+kernel
theorem Zx8:W4S.all badW=true:=by decide+kernel
theorem Zx9:W5S.all badW=true:=by decide+kernel
structure Beh(w:List Nat):Prop where
 sc:isz (scan w 0 .nm)=false
 len:w.length≤14000
 asc:Asc w
theorem Zoh{s:Str}(h:badW s=true):Beh s.cps.toList:=by
 unfold badW at h
 rw[Bool.and_eq_true,Bool.and_eq_true,Bool.not_eq_true']at h
 refine⟨h.1.1,?_,fun c hc=>Nat.le_of_ble_eq_true (List.all_eq_true.mp h.2 c hc)⟩
 have:=Nat.le_of_ble_eq_true h.1.2
 rw[←Za2]at this
 omega
theorem Zoi{l:List Str}(n:Int)(h:l.all badW=true)(hl:(l.length:Int)=n)(hn:0<n)(x:Int):∃w,Beh w∧L2.atI (l.map D.str) (x % n)=some (.str (S w)):=by
 obtain⟨d,hd,e⟩:=Zie (l.map D.str) x n (by rw[List.length_map];exact hl) hn
 obtain⟨s,hs,rfl⟩:=List.mem_map.mp hd
 refine⟨s.cps.toList,Zoh (List.all_eq_true.mp h s hs),?_⟩
 rw[←S_of]
 exact e
noncomputable def R3:List Nat:=List.replicate 3000 91
noncomputable def R4:List Nat:=List.replicate 3000 93
noncomputable def R9:List Nat:=List.replicate 9000 91
theorem Zkt:R3.length=3000:=List.length_replicate
theorem Zoj:R4.length=3000:=List.length_replicate
theorem Zya:R9.length=9000:=List.length_replicate
theorem Zok(r:List Nat):scan (91::91::91::91::r) 0 .nm=none:=rfl
theorem beh3:Beh (R3++(97::R4)):=by
 refine⟨?_,?_,fun c hc=>?_⟩
 ·have e:R3++(97::R4)=91::91::91::91::(List.replicate 2996 91++(97::R4)):=rfl
  rw[e,Zok];rfl
 ·rw[List.length_append,List.length_cons,Zkt,Zoj];decide
 ·rcases List.mem_append.mp hc with z|z
  ·rw[(List.mem_replicate.mp z).2];decide
  rcases List.mem_cons.mp z with z|z
  ·rw[z];decide
  ·rw[(List.mem_replicate.mp z).2];decide
theorem beh9:Beh R9:=by
 refine⟨?_,by rw[Zya];decide,fun c hc=>?_⟩
 ·have e:R9=91::91::91::91::List.replicate 8996 91:=rfl
  rw[e,Zok];rfl
 ·rw[(List.mem_replicate.mp hc).2];decide
theorem Zjg(c n:Nat)(h:2≤n):Txt.mul (S [c]) (n:Int)=S (List.replicate n c):=by
 have f0:∀(m:Nat) (acc:Array Nat),List.foldl (fun x1 x2=>x1++x2) acc (List.replicate m #[c])=acc++(List.replicate m c).toArray:=by
  intro m
  induction m with
  |zero=>intro acc;simp
  |succ m ih=>
   intro acc
   rw[List.replicate_succ,List.foldl_cons,ih,List.replicate_succ]
   apply Array.toList_inj.mp
   simp
 have l1:(S [c]).length=1:=Z0 _
 have hb:(((n:Int)==1)|| ((S [c]).length==0))=false:=by
  rw[l1]
  have:((n:Int)==1)=false:=by rw[beq_eq_false_iff_ne];omega
  rw[this];rfl
 have e:(S [c]).cps= #[c]:=rfl
 have en:(n:Int).toNat=n:=by omega
 unfold Txt.mul
 rw[if_neg (by omega),if_neg (by rw[hb];exact Bool.false_ne_true),e,en,f0]
 simp
theorem Zol(c n:Nat)(h:n≤10000):MulOk (S [c]) (n:Int):=by
 have hl:(S [c]).length=1:=Z0 _
 unfold MulOk
 refine⟨?_,fun h1 _=>?_,fun _ _=>?_⟩
 ·rw[decide_eq_false (by omega),decide_eq_false (by omega)];rfl
 ·rw[hl]
  have:(2^63- 1) / (n:Int)≥1:=by
   refine Int.le_ediv_of_mul_le (by omega) (by omega)
  omega
 ·rw[hl,Nat.one_mul]
  have:(n:Int).toNat≤10000:=by omega
  have hs:(10000:Nat)≤PySem.sizeLine:=by decide
  unfold Builtin.Str.tooLong
  exact decide_eq_false (by omega)
theorem mul3:mulS (S [91]) 3000=some (.fz (.str (S R3))):=by
 have:=Zfk (Zol 91 3000 (by decide))
 rw[Zjg 91 3000 (by decide)]at this
 exact this
theorem mul4:mulS (S [93]) 3000=some (.fz (.str (S R4))):=by
 have:=Zfk (Zol 93 3000 (by decide))
 rw[Zjg 93 3000 (by decide)]at this
 exact this
theorem mul9:mulS (S [91]) 9000=some (.fz (.str (S R9))):=by
 have:=Zfk (Zol 91 9000 (by decide))
 rw[Zjg 91 9000 (by decide)]at this
 exact this
noncomputable abbrev L5:List D:=W3S.map D.str++[.str (S (R3++(97::R4))),.str (S R9)]
theorem at5(x:Int):∃w,Beh w∧L2.atI L5 (x % 5)=some (.str (S w)):=by
 obtain⟨d,hd,e⟩:=Zie L5 x 5 (by rw[List.length_append,List.length_map];decide) (by decide)
 rcases List.mem_append.mp hd with z|z
 ·obtain⟨s,hs,rfl⟩:=List.mem_map.mp z
  refine⟨s.cps.toList,Zoh (List.all_eq_true.mp Zx7 s hs),?_⟩
  rw[←S_of]
  exact e
 rcases List.mem_cons.mp z with z|z
 ·rw[z]at e;exact⟨_,beh3,e⟩
 ·rw[List.mem_singleton.mp z]at e;exact⟨_,beh9,e⟩
noncomputable def An(n:Nat):List Tk:=List.replicate n (.br nA)
noncomputable def G10:List Tk:=(List.replicate 10 [Tk.op,.br nA,.sg [98],.cl]).flatten
noncomputable abbrev SA:Str:="{a}"
noncomputable abbrev SG:Str:="[{a}b]"
noncomputable def Zqc(ts:List Tk):Bool:=gdB false ts&&Nat.ble (flat ts).length 15000&&Nat.ble ts.length 900&&Nat.blt 30 (nc ts)
theorem Zku{ts:List Tk}(h:Zqc ts=true):Spo (flat ts):=by
 unfold Zqc at h
 rw[Bool.and_eq_true,Bool.and_eq_true,Bool.and_eq_true]at h
 exact⟨Zxx ts (Zks h.1.1.1) (Nat.le_of_ble_eq_true h.1.1.2) (Nat.le_of_ble_eq_true h.1.2) (Nat.le_of_ble_eq_true h.2)⟩
theorem Z1v:∀n∈[31,32,33,34,35],Zqc (An n)=true:=by decide+kernel
theorem Z1w:∀n∈[1,2,3,4],Zqc (G10++An n)=true:=by decide+kernel
theorem mulA(n:Nat)(h1:MulOk SA (n:Int))(h2:Txt.mul SA (n:Int)=S (flat (An n))):mulS SA (n:Int)=some (.fz (.str (S (flat (An n))))):=by
 rw[Zfk h1,h2]
theorem mulG:mulS SG 10=some (.fz (.str (S (flat G10)))):=by
 rw[Zfk (by unfold MulOk;decide+kernel)]
 have:Txt.mul SG 10=S (flat G10):=by decide+kernel
 rw[this]
theorem Z1x:mulS SA 1=some (.fz (.str (S (flat (An 1))))):=mulA 1 (by unfold MulOk;decide+kernel) (by decide+kernel)
theorem Z1y:mulS SA 2=some (.fz (.str (S (flat (An 2))))):=mulA 2 (by unfold MulOk;decide+kernel) (by decide+kernel)
theorem Z1z:mulS SA 3=some (.fz (.str (S (flat (An 3))))):=mulA 3 (by unfold MulOk;decide+kernel) (by decide+kernel)
theorem Z10:mulS SA 4=some (.fz (.str (S (flat (An 4))))):=mulA 4 (by unfold MulOk;decide+kernel) (by decide+kernel)
theorem Zyb:mulS SA 30=some (.fz (.str (S (flat (An 30))))):=mulA 30 (by unfold MulOk;decide+kernel) (by decide+kernel)
theorem Zyc:mulS SA 31=some (.fz (.str (S (flat (An 31))))):=mulA 31 (by unfold MulOk;decide+kernel) (by decide+kernel)
theorem Zyd:mulS SA 32=some (.fz (.str (S (flat (An 32))))):=mulA 32 (by unfold MulOk;decide+kernel) (by decide+kernel)
theorem Zye:mulS SA 33=some (.fz (.str (S (flat (An 33))))):=mulA 33 (by unfold MulOk;decide+kernel) (by decide+kernel)
theorem Zyf:mulS SA 34=some (.fz (.str (S (flat (An 34))))):=mulA 34 (by unfold MulOk;decide+kernel) (by decide+kernel)
theorem Zyg:mulS SA 35=some (.fz (.str (S (flat (An 35))))):=mulA 35 (by unfold MulOk;decide+kernel) (by decide+kernel)
theorem Zyh:∀n∈[1,2,3,4],(flat (An n)).length≤12:=by decide+kernel
theorem Zt9:(flat G10).length=60:=by decide+kernel
end My
namespace My
open DL PySem
section
variable{L u v:List Nat}{c:Int}(hl:L.length≤63)(e:L=u++v)(hs:Txt.slice (S L) none (some (c / 8 % ((L.length:Int)+1)))=S u)(ht:Txt.slice (S L) (some (c / 8 % ((L.length:Int)+1))) none=S v)
include hl e hs ht
theorem Zyi{k:Nat}(h8:c % 8=0)(ek:L2.atI BDS.cps.toList (c / 8 % 12)=some k):Gen.Zl [.str (S L),.int c]=some (.fz (.str (S (u++k::v)))):=by
 have zs:BDS.length≤PySem.sizeLine:=Zh (by decide+kernel)
 have sk:(⟨#[k]⟩:Str)=S [k]:=rfl
 have hL:u.length+v.length≤63:=by rw[e,List.length_append]at hl;exact hl
 have hz:L.length≤PySem.sizeLine:=Zh (by omega)
 have hne:¬(L.length:Int)+1=0:=by omega
 have z1:u.length+1≤PySem.sizeLine:=Zh (by omega)
 have z2:u.length+(1+v.length)≤PySem.sizeLine:=Zh (by omega)
 have z3:u.length+1+v.length≤PySem.sizeLine:=Zh (by omega)
 clear e
 unfold Gen.Zl Gen.Z1
 simp[h8,ek,zs,hs,ht,sk,Z0,Zcy,hz,hne,z1,z2,z3]
theorem Zyj(h8:c % 8=1):Gen.Zl [.str (S L),.int c]=some (.fz (.str (S (u++91::93::v)))):=by
 have eb:Str.ofString "[]"=S [91,93]:=by decide+kernel
 have hL:u.length+v.length≤63:=by rw[e,List.length_append]at hl;exact hl
 have hz:L.length≤PySem.sizeLine:=Zh (by omega)
 have hne:¬(L.length:Int)+1=0:=by omega
 have z1:u.length+2≤PySem.sizeLine:=Zh (by omega)
 have z2:u.length+(2+v.length)≤PySem.sizeLine:=Zh (by omega)
 have z3:u.length+2+v.length≤PySem.sizeLine:=Zh (by omega)
 clear e
 unfold Gen.Zl Gen.Z1
 simp[h8,hs,ht,eb,Z0,Zcy,hz,hne,z1,z2,z3]
theorem Zyk{w:List Nat}(hw:w.length≤14000)(h8:c % 8=2)(ew:L2.atI (W2S.map D.str) (c / 8 % 11)=some (.str (S w))):Gen.Zl [.str (S L),.int c]=some (.fz (.str (S (L++w)))):=by
 have hz:L.length≤PySem.sizeLine:=Zh (by omega)
 have hne:¬(L.length:Int)+1=0:=by omega
 have z1:L.length+w.length≤PySem.sizeLine:=Zh (by omega)
 have z11:11≤PySem.sizeLine:=Zh (by decide)
 clear e
 simp only[W2S,List.map_cons,List.map_nil]at ew
 unfold Gen.Zl Gen.Z1
 simp[h8,hs,ht,ew,Z0,Zcy,hz,hne,z1,z11]
theorem Zyl{w:List Nat}(hw:w.length≤14000)(h8:c % 8=3)(ew:L2.atI L5 (c / 8 % 5)=some (.str (S w))):Gen.Zl [.str (S L),.int c]=some (.fz (.str (S (L++w)))):=by
 have hz:L.length≤PySem.sizeLine:=Zh (by omega)
 have hne:¬(L.length:Int)+1=0:=by omega
 have z1:L.length+w.length≤PySem.sizeLine:=Zh (by omega)
 have z2:2≤PySem.sizeLine:=Zh (by decide)
 have z3:3≤PySem.sizeLine:=Zh (by decide)
 have z5:5≤PySem.sizeLine:=Zh (by decide)
 have ea:Str.ofString "a"=S [97]:=by decide+kernel
 have y1:R3.length+1≤PySem.sizeLine:=Zh (by rw[Zkt];decide)
 have y2:R3.length+(1+R4.length)≤PySem.sizeLine:=Zh (by rw[Zkt,Zoj];decide)
 have y3:R3.length+1+R4.length≤PySem.sizeLine:=Zh (by rw[Zkt,Zoj];decide)
 have m3:=mul3
 have m4:=mul4
 have m9:=mul9
 clear e
 simp only[L5,W3S,List.map_cons,List.map_nil,List.cons_append,List.nil_append]at ew
 generalize R3=A at*
 generalize R4=B at*
 generalize R9=C at*
 unfold Gen.Zl Gen.Z1
 simp[h8,hs,ht,ew,ea,op_S,cl_S,m3,m4,m9,Z0,Zcy,hz,hne,y1,y2,y3,z1,z2,z3,z5]
theorem Zym{w:List Nat}(hw:w.length≤14000)(h8:c % 8=4)(ew:L2.atI (W4S.map D.str) (c / 8 % 11)=some (.str (S w))):Gen.Zl [.str (S L),.int c]=some (.fz (.str (S (L++w)))):=by
 have hz:L.length≤PySem.sizeLine:=Zh (by omega)
 have hne:¬(L.length:Int)+1=0:=by omega
 have z1:L.length+w.length≤PySem.sizeLine:=Zh (by omega)
 have z9:9≤PySem.sizeLine:=Zh (by decide)
 have z11:11≤PySem.sizeLine:=Zh (by decide)
 clear e
 simp only[W4S,List.map_cons,List.map_nil]at ew
 unfold Gen.Zl Gen.Z1
 simp[h8,hs,ht,ew,Z0,Zcy,hz,hne,z1,z2,z9,z11]
theorem Zyn{w:List Nat}(hw:w.length≤14000)(h8:c % 8=5)(ew:L2.atI (W5S.map D.str) (c / 8 % 13)=some (.str (S w))):Gen.Zl [.str (S L),.int c]=some (.fz (.str (S (L++w)))):=by
 have hz:L.length≤PySem.sizeLine:=Zh (by omega)
 have hne:¬(L.length:Int)+1=0:=by omega
 have z1:L.length+w.length≤PySem.sizeLine:=Zh (by omega)
 have z7:7≤PySem.sizeLine:=Zh (by decide)
 have z9:9≤PySem.sizeLine:=Zh (by decide)
 have z13:13≤PySem.sizeLine:=Zh (by decide)
 clear e
 simp only[W5S,List.map_cons,List.map_nil]at ew
 unfold Gen.Zl Gen.Z1
 simp[h8,hs,ht,ew,Z0,Zcy,hz,hne,z1,z2,z4,z7,z9,z13]
theorem Zyo{n:Nat}(h8:c % 8=6)(em:mulS SA (31+c / 8 % 5)=some (.fz (.str (S (flat (An n)))))):Gen.Zl [.str (S L),.int c]=some (.fz (.str (S (flat (An n))))):=by
 have hz:L.length≤PySem.sizeLine:=Zh (by omega)
 have hne:¬(L.length:Int)+1=0:=by omega
 clear e
 generalize S (flat (An n))=R at*
 unfold Gen.Zl Gen.Z1
 simp[h8,hs,ht,em,Z0,hz,hne]
theorem Zyp{n:Nat}(hn:n∈[1,2,3,4])(h8:c % 8=7)(em:mulS SA (1+c / 8 % 4)=some (.fz (.str (S (flat (An n)))))):Gen.Zl [.str (S L),.int c]=some (.fz (.str (S (flat (G10++An n))))):=by
 have hz:L.length≤PySem.sizeLine:=Zh (by omega)
 have hne:¬(L.length:Int)+1=0:=by omega
 have z1:(flat G10).length+(flat (An n)).length≤PySem.sizeLine:=Zh (by rw[Zt9];have:=Zyh n hn;omega)
 have mg:=mulG
 clear e
 rw[Zb5]
 generalize flat (An n)=R at*
 generalize flat G10=G at*
 unfold Gen.Zl Gen.Z1
 simp[h8,hs,ht,em,mg,Z0,Zcy,hz,hne,z1]
end
theorem Zln{L:List Nat}(B:Base L)(c:Int):∃t,Spo t∧Gen.Zl [.str (S L),.int c]=some (.fz (.str (S t))):=by
 obtain⟨u,v,e,hs,ht⟩:=Zx4 L (c / 8)
 have hl:=B.len
 have h8:c % 8=0∨c % 8=1∨c % 8=2∨c % 8=3∨c % 8=4∨c % 8=5∨c % 8=6∨c % 8=7:=by omega
 rcases h8 with h8|h8|h8|h8|h8|h8|h8|h8
 ·obtain⟨k,hk,ek⟩:=Zie BDS.cps.toList (c / 8) 12 (by rw[Zt8];rfl) (by decide)
  exact⟨_,spo0 B e hk,Zyi hl e hs ht h8 ek⟩
 ·exact⟨_,spo1 B e,Zyj hl e hs ht h8⟩
 ·obtain⟨w,b,ew⟩:=Zoi 11 Zx6 rfl (by decide) (c / 8)
  exact⟨_,spoW B b.sc b.len b.asc,Zyk hl e hs ht b.len h8 ew⟩
 ·obtain⟨w,b,ew⟩:=at5 (c / 8)
  exact⟨_,spoW B b.sc b.len b.asc,Zyl hl e hs ht b.len h8 ew⟩
 ·obtain⟨w,b,ew⟩:=Zoi 11 Zx8 rfl (by decide) (c / 8)
  exact⟨_,spoW B b.sc b.len b.asc,Zym hl e hs ht b.len h8 ew⟩
 ·obtain⟨w,b,ew⟩:=Zoi 13 Zx9 rfl (by decide) (c / 8)
  exact⟨_,spoW B b.sc b.len b.asc,Zyn hl e hs ht b.len h8 ew⟩
 ·have h5:c / 8 % 5=0∨c / 8 % 5=1∨c / 8 % 5=2∨c / 8 % 5=3∨c / 8 % 5=4:=by omega
  have:∃n∈[31,32,33,34,35],mulS SA (31+c / 8 % 5)=some (.fz (.str (S (flat (An n))))):=by
   rcases h5 with h|h|h|h|h<;> rw[h]
   ·exact⟨31,by simp,Zyc⟩
   ·exact⟨32,by simp,Zyd⟩
   ·exact⟨33,by simp,Zye⟩
   ·exact⟨34,by simp,Zyf⟩
   ·exact⟨35,by simp,Zyg⟩
  obtain⟨n,hn,em⟩:=this
  exact⟨_,Zku (Z1v n hn),Zyo hl e hs ht h8 em⟩
 ·have h4:c / 8 % 4=0∨c / 8 % 4=1∨c / 8 % 4=2∨c / 8 % 4=3:=by omega
  have:∃n∈[1,2,3,4],mulS SA (1+c / 8 % 4)=some (.fz (.str (S (flat (An n))))):=by
   rcases h4 with h|h|h|h<;> rw[h]
   ·exact⟨1,by simp,Z1x⟩
   ·exact⟨2,by simp,Z1y⟩
   ·exact⟨3,by simp,Z1z⟩
   ·exact⟨4,by simp,Z10⟩
  obtain⟨n,hn,em⟩:=this
  exact⟨_,Zku (Z1w n hn),Zyp hl e hs ht hn h8 em⟩
theorem Zip(d:D)(h:Gen.Zf [d]=some (.x NS)):Gen.Zau [d]=some (.fz (.bl true)):=by
 unfold Gen.Zau Gen.Zct Gen.Zde
 simp[h]
noncomputable abbrev T4:List D:=[.non,.int 5,.tup [.str "signs",.str "a"],.lst [.str "a"]]
theorem Zua:∀d∈T4,Gen.Zf [d]=some (.x NS):=by
 intro d hd
 simp only[T4,List.mem_cons,List.not_mem_nil,or_false]at hd
 unfold Gen.Zf Gen.Zw
 rcases hd with rfl|rfl|rfl|rfl<;> simp
theorem turn(ns:List Int)(i:Nat)(hi:i<ns.length)(x2 x3:Option SV):∃y2,Gen.Zgv [some (.fz (.lst (ns.map D.int))),some (.fz (.int (i:Int))),x2,x3]=some (.nx [some (.fz (.lst (ns.map D.int))),some (.fz (.int (i:Int))),y2,x3]):=by
 have ec:L2.atI (ns.map D.int) (i:Int)=some (.int ns[i]):=Zga _ i _ (by simp[hi])
 obtain⟨L,B,e1⟩:=Zt6 ns[i]
 obtain⟨t,sp,e2⟩:=Zln B (ns[i] / 512+(i:Int))
 have rf:=Zip _ sp.no
 obtain⟨d,r1,r2⟩:=B.back
 refine⟨some (.fz (.str (S L))),?_⟩
 generalize S L=T at*
 generalize S t=U at*
 generalize ns.map D.int=NS at*
 unfold Gen.Zgv
 simp[ec,e1,e2,rf,r1,r2]
theorem Zom(ns:List Int):∀(n s:Nat) (x1 x2 x3:Option SV),s+n≤ns.length→
  ∃y1 y2,forD (Zap 1) Gen.Zgv (nats s n) [some (.fz (.lst (ns.map D.int))),x1,x2,x3]=some (.nx [some (.fz (.lst (ns.map D.int))),y1,y2,x3])
 |0,s,x1,x2,x3,_=>⟨x1,x2,rfl⟩
 |n+1,s,x1,x2,x3,h=>by
  obtain⟨y2,e⟩:=turn ns s (by omega) x2 x3
  obtain⟨w1,w2,e2⟩:=Zom ns n (s+1) (some (.fz (.int (s:Int)))) y2 x3 (by omega)
  refine⟨w1,w2,?_⟩
  have en:nats s (n+1)=D.int (s:Int)::nats (s+1) n:=by unfold nats;rw[List.range'_succ,List.map_cons]
  rw[en]
  exact(Zdv (by simp) e).trans e2
theorem Zub(ns:List Int):∃c:Int,Gen.Zbf [.lst (ns.map D.int),.int 0]=some (.fz (.int c)):=by
 unfold Gen.Zbf Gen.Zcu
 cases ns with
 |nil=>exact⟨0,by simp⟩
 |cons a r=>
  have h1:(0:Int)<((r.length:Nat):Int)+1:=by omega
  have ec:L2.atI (D.int a::r.map D.int) 0=some (.int a):=Zga _ 0 _ rfl
  exact⟨a,by simp[ec,h1]⟩
noncomputable def ONE:D:=.tup [.str (Str.ofString "field"),.tup [.str (Str.ofString "a")]]
theorem Zlo:sim (An 30) [[]]=some [List.replicate 30 dA]:=by kernel_rfl
theorem Zyq:Gen.Zag [.str (S (flat (An 30)))]=some (.fz (.tup (List.replicate 30 ONE))):=by
 have r:=Zrq (An 30) (List.replicate 30 dA) (Zks (by decide+kernel)) (by decide+kernel) (by decide+kernel) (by decide+kernel) Zlo
 unfold Gen.Zag valG
 rw[r]
 rfl
theorem Zlp:Zlf (.tup [ONE]) (.int 30)=some (.fz (.tup (List.replicate 30 ONE))):=by
 rw[Zp2 rfl (by decide) (by decide) (by decide)]
 rfl
theorem Zon:eqX (.tup (List.replicate 30 ONE)) (.tup (List.replicate 30 ONE))=some (.fz (.bl true)):=by kernel_rfl
theorem law_true(ns:List Int)(hns:ns.length≤63):Gen.Zgw [.lst (ns.map D.int)]=some (.fz (.bl true)):=by
 obtain⟨c,ec⟩:=Zub ns
 obtain⟨d,hd,e4⟩:=Zie T4 c 4 (by decide) (by decide)
 have rf:=Zip d (Zua d hd)
 have mn:(if(40:Int)<(ns.length:Int)then(40:Int)else(ns.length:Int))=((min ns.length 40:Nat):Int):=by
  split<;> omega
 have rg:rngP ((min ns.length 40:Nat):Int):=Zpa (by omega)
 obtain⟨y1,y2,lp⟩:=Zom ns (min ns.length 40) 0 none none none (by omega)
 have it:=Znr (min ns.length 40)
 have z1:1≤PySem.sizeLine:=Zh (by decide)
 have t1:=Zyq
 have t2:=Zlp
 have t3:=Zon
 have m30:=Zyb
 generalize List.replicate 30 ONE=THIRTY at*
 unfold ONE at t2
 generalize S (flat (An 30))=SA30 at*
 generalize min ns.length 40=m at*
 unfold Gen.Zgw Gen.Ztn
 simp[-forD,-eqX,mn,rg,it,lp,ec,e4,rf,z1,z2,z4,t1,t2,t3,m30]
end My
def PySem.W.Fast.tw18289557309350397996:=()
def PySem.W.Fast.tw9054353074352780707:=()
def PySem.W.Fast.tw17225805168244340171:=()
def PySem.W.Fast.tw6045993524154914137:=()
def PySem.W.Fast.tw3094202099147848746:=()
def PySem.W.Fast.tw14517989951298563006:=()
def PySem.W.Fast.tw16008020574508974013:=()
def PySem.W.Fast.tw17444174327125509738:=()
def PySem.W.Fast.tw6749819931365322344:=()
def PySem.W.Fast.tw8990952518598612654:=()
def PySem.W.Fast.tw12207401619009073841:=()
def PySem.W.Fast.tw15786864168520564400:=()
def PySem.W.Fast.tw8574970954843509859:=()
def PySem.W.Fast.tw65277338178249841:=()
def PySem.W.Fast.tw2676216760934148052:=()
def PySem.W.Fast.tw14476192040366747254:=()
def PySem.W.Fast.tw17046269105368228632:=()
def PySem.W.Fast.tw12244620626007712908:=()
def PySem.W.Fast.tw7308086148538482515:=()
def PySem.W.Fast.tw15769221061458765702:=()
def PySem.W.Fast.tw4784446462197051917:=()
open PySem PySem.W PyProof.Rows
set_option maxRecDepth 100000 in
set_option maxHeartbeats 0 in
theorem PySem.Challenge.cw_citeward_k15_no_template_holds : PySem.Challenge.rw_citeward_k15_no_template.Holds := by
  w_on; o_law; k_head; (case hw => w_witness2)
  k_fill
  refine Gen.walk (l := PySem.Challenge.rw_citeward_k15_no_template) rfl rfl (fun w h Y => PySem.W.kIn_of Y) ?F My.law_true
  case F =>
    intro w mg fa h KX G hmg
    refine' Gen.Zxg KX G hmg ?ax0 ?Fx0 ?kx0 ?ax1 ?Fx1 ?kx1 ?ax2 ?Fx2 ?kx2 ?ax3 ?Fx3 ?kx3 ?ax4 ?Fx4 ?kx4 ?ax5 ?Fx5 ?kx5 ?ax6 ?Fx6 ?kx6 ?ax7 ?Fx7 ?kx7 ?ax8 ?Fx8 ?kx8 ?ax9 ?Fx9 ?kx9 ?ax10 ?Fx10 ?kx10 ?ax11 ?Fx11 ?kx11 ?ax12 ?Fx12 ?kx12 ?ax13 ?Fx13 ?kx13 ?ax14 ?Fx14 ?kx14 ?ax15 ?Fx15 ?kx15 ?ax16 ?Fx16 ?kx16 ?ax17 ?Fx17 ?kx17 ?ax18 ?lx18 ?cx18 ?kx18 ?zValueError ?zall ?zint ?zisinstance ?zlen ?zmin ?zrange ?zstr ?ztuple ?zx0 ?zx1 ?zx2 ?zx3 ?zx4 ?zx5 ?zx6 ?zx7 ?zc_CiteError ?zc_NoHands ?zc_NoList ?zc_NoName ?zc_NoPlain ?zc_NoRow ?zc_NoStyle ?zc_NoText ?zc_NoWork ?ty_NoStyle ?ic_NoStyle ?be_NoStyle ?h_NoStyle_NoStyle ?q0_NoStyle ?q1_NoStyle ?q2_NoStyle ?ecl_NoStyle ?ega_NoStyle ?egt_NoStyle ?eca_NoStyle ?egs_NoStyle ?etk_NoStyle ?eob_NoStyle ?ebe_NoStyle ?ow_NoStyle
    (case ax0 => k_is)
    (case Fx0 => exact ⟨_, L2.Zbc (by k_is) (by k_is) (by k_is)⟩)
    (case kx0 => k_is)
    (case ax1 => k_is)
    (case Fx1 => exact ⟨_, L2.Zbc (by k_is) (by k_is) (by k_is)⟩)
    (case kx1 => k_is)
    (case ax2 => k_is)
    (case Fx2 => exact ⟨_, L2.Zbc (by k_is) (by k_is) (by k_is)⟩)
    (case kx2 => k_is)
    (case ax3 => k_is)
    (case Fx3 => exact ⟨_, L2.Zbc (by k_is) (by k_is) (by k_is)⟩)
    (case kx3 => k_is)
    (case ax4 => k_is)
    (case Fx4 => exact ⟨_, L2.Zbc (by k_is) (by k_is) (by k_is)⟩)
    (case kx4 => k_is)
    (case ax5 => k_is)
    (case Fx5 => exact ⟨_, L2.Zbc (by k_is) (by k_is) (by k_is)⟩)
    (case kx5 => k_is)
    (case ax6 => k_is)
    (case Fx6 => exact ⟨_, L2.Zbc (by k_is) (by k_is) (by k_is)⟩)
    (case kx6 => k_is)
    (case ax7 => k_is)
    (case Fx7 => exact ⟨_, L2.Zbc (by k_is) (by k_is) (by k_is)⟩)
    (case kx7 => k_is)
    (case ax8 => k_is)
    (case Fx8 => exact ⟨_, L2.Zbc (by k_is) (by k_is) (by k_is)⟩)
    (case kx8 => k_is)
    (case ax9 => k_is)
    (case Fx9 => exact ⟨_, L2.Zbc (by k_is) (by k_is) (by k_is)⟩)
    (case kx9 => k_is)
    (case ax10 => k_is)
    (case Fx10 => exact ⟨_, L2.Zbc (by k_is) (by k_is) (by k_is)⟩)
    (case kx10 => k_is)
    (case ax11 => k_is)
    (case Fx11 => exact ⟨_, L2.Zbc (by k_is) (by k_is) (by k_is)⟩)
    (case kx11 => k_is)
    (case ax12 => k_is)
    (case Fx12 => exact ⟨_, L2.Zbc (by k_is) (by k_is) (by k_is)⟩)
    (case kx12 => k_is)
    (case ax13 => k_is)
    (case Fx13 => exact ⟨_, L2.Zbc (by k_is) (by k_is) (by k_is)⟩)
    (case kx13 => k_is)
    (case ax14 => k_is)
    (case Fx14 => exact ⟨_, L2.Zbc (by k_is) (by k_is) (by k_is)⟩)
    (case kx14 => k_is)
    (case ax15 => k_is)
    (case Fx15 => exact ⟨_, L2.Zbc (by k_is) (by k_is) (by k_is)⟩)
    (case kx15 => k_is)
    (case ax16 => k_is)
    (case Fx16 => exact ⟨_, L2.Zbc (by k_is) (by k_is) (by k_is)⟩)
    (case kx16 => k_is)
    (case ax17 => k_is)
    (case Fx17 => exact ⟨_, L2.Zbc (by k_is) (by k_is) (by k_is)⟩)
    (case kx17 => k_is)
    (case ax18 => k_is)
    (case lx18 => k_is)
    (case cx18 => k_is)
    (case kx18 => k_is)
    (case zValueError => k_is)
    (case zall => k_is)
    (case zint => k_is)
    (case zisinstance => k_is)
    (case zlen => k_is)
    (case zmin => k_is)
    (case zrange => k_is)
    (case zstr => k_is)
    (case ztuple => k_is)
    (case zx0 => k_is)
    (case zx1 => k_is)
    (case zx2 => k_is)
    (case zx3 => k_is)
    (case zx4 => k_is)
    (case zx5 => k_is)
    (case zx6 => k_is)
    (case zx7 => k_is)
    (case zc_CiteError => k_is)
    (case zc_NoHands => k_is)
    (case zc_NoList => k_is)
    (case zc_NoName => k_is)
    (case zc_NoPlain => k_is)
    (case zc_NoRow => k_is)
    (case zc_NoStyle => k_is)
    (case zc_NoText => k_is)
    (case zc_NoWork => k_is)
    (case ty_NoStyle => k_is)
    (case ic_NoStyle => k_is)
    (case be_NoStyle => k_is)
    (case h_NoStyle_NoStyle => k_is)
    (case q0_NoStyle => kit_is)
    (case q1_NoStyle => kit_is)
    (case q2_NoStyle => kit_is)
    (case ecl_NoStyle => k_is)
    (case ega_NoStyle => k_is)
    (case egt_NoStyle => k_is)
    (case eca_NoStyle => k_is)
    (case egs_NoStyle => k_is)
    (case etk_NoStyle => k_is)
    (case eob_NoStyle => k_is)
    (case ebe_NoStyle => k_is)
    (case ow_NoStyle => k_exc)
