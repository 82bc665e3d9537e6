import PyProof.Rows.All
import Wide.All
import OpenK.AllK
import Wide.FinOn
import Lean
import PyProof.EqAt
import PyProof.EqKinds
import PyProof.TupleCall
import PyProof.StrLawsRepr
import PyProof.NeKinds
import PySem.Challenge.RW_cardshop_k33_cards_printed
set_option Elab.async false
set_option linter.all false
set_option maxRecDepth 100000
set_option maxHeartbeats 4000000
namespace L2
open PySem PySem.Spec PyProof.Rows
noncomputable abbrev Key:=Sum Int Str
noncomputable def keyIs:Key→Value→Bool
 | .inl k,v=>Value.isInt k v
 | .inr x,v=>Value.isStrOf x v
noncomputable def keyH (w:World):Key→Int
 | .inl k=>hashInt k
 | .inr x=>hashStr w x
theorem zaQ_:∀ {k:Key}{v:Value},keyIs k v=true→(∃ i t,k=Sum.inl i∧v=Value.int i t)∨(∃ x t,k=Sum.inr x∧v=Value.str x t)
 | .inl i,v,h=>by
  obtain ⟨t,e⟩:=Value.isInt_shape (k:=i) (v:=v) h
  exact .inl ⟨i,t,rfl,e⟩
 | .inr x,v,h=>by
  obtain ⟨t,e⟩:=Value.isStrOf_shape (x:=x) (v:=v) h
  exact .inr ⟨x,t,rfl,e⟩
theorem zla_ (i:Int) (t:Tok):keyIs (.inl i) (.int i t)=true:=by simp [keyIs,Value.isInt]
theorem zkW_ (x:Str) (t:Tok):keyIs (.inr x) (.str x t)=true:=by simp [keyIs,Value.isStrOf]
theorem zpT_ (a b:Int):decide ((Sum.inl a:Key)=Sum.inl b)=(a == b):=by
 by_cases e:a=b
 ·subst e; simp
 ·have h:¬ (Sum.inl a:Key)=Sum.inl b:=fun q=>e (Sum.inl.inj q)
  rw [decide_eq_false h]
  exact (beq_eq_false_iff_ne.mpr e).symm
theorem zpO_ (a b:Str):decide ((Sum.inr a:Key)=Sum.inr b)=decide (a=b):=by
 by_cases e:a=b
 ·subst e; simp
 ·have h:¬ (Sum.inr a:Key)=Sum.inr b:=fun q=>e (Sum.inr.inj q)
  rw [decide_eq_false h,decide_eq_false e]
theorem zqs_ (a:Int) (b:Str):decide ((Sum.inl a:Key)=Sum.inr b)=false:=decide_eq_false (fun q=>nomatch q)
theorem zpE_ (a:Str) (b:Int):decide ((Sum.inr a:Key)=Sum.inl b)=false:=decide_eq_false (fun q=>nomatch q)
noncomputable def mixKind (prog:Program) (w:World):PySem.KeyKind prog w Key where
 is:=keyIs
 hash:=keyH w
 inj:=fun v a b ha hb=>by
  rcases zaQ_ ha with ⟨i,t,rfl,rfl⟩ | ⟨x,t,rfl,rfl⟩
  ·rcases zaQ_ hb with ⟨j,u,rfl,e⟩ | ⟨y,u,rfl,e⟩
   ·injection e with e1 _; rw [e1]
   ·exact nomatch e
  ·rcases zaQ_ hb with ⟨j,u,rfl,e⟩ | ⟨y,u,rfl,e⟩
   ·exact nomatch e
   ·injection e with e1 _; rw [e1]
 byValue:=fun k v h=>by
  rcases zaQ_ h with ⟨i,t,rfl,rfl⟩ | ⟨x,t,rfl,rfl⟩<;>rfl
 pyHash:=fun hv h=>by
  rcases zaQ_ hv with ⟨i,t,rfl,rfl⟩ | ⟨x,t,rfl,rfl⟩
  ·exact wpAny_pyHash_int h
  ·exact wpAny_pyHash_str h
 eqBool:=fun hu hv h=>by
  rcases zaQ_ hu with ⟨i,t,rfl,rfl⟩ | ⟨x,t,rfl,rfl⟩
  ·rcases zaQ_ hv with ⟨j,u,rfl,rfl⟩ | ⟨y,u,rfl,rfl⟩
   ·rw [zpT_] at h; exact wpAny_eqBool_int h
   ·rw [zqs_] at h; exact SeqAt.EqAt.int_str i t y u _ _ _ _ h
  ·rcases zaQ_ hv with ⟨j,u,rfl,rfl⟩ | ⟨y,u,rfl,rfl⟩
   ·rw [zpE_] at h; exact SeqAt.EqAt.str_int x t j u _ _ _ _ h
   ·rw [zpO_] at h; exact wpAny_eqBool_str h
 «strs»:=fun k x t v h=>by
  rcases zaQ_ h with ⟨i,u,rfl,e⟩ | ⟨y,u,rfl,e⟩
  ·exact nomatch e
  ·injection e with e1 _
   subst e1
   cases v<;>rfl
theorem zj0_ (prog:Program) (w:World) (k:Key) (v:Value):(mixKind prog w).is k v=keyIs k v:=rfl
theorem ziG_ (prog:Program) (w:World) (i:Int) (t:Tok):(mixKind prog w).is (.inl i) (.int i t)=true:=zla_ i t
theorem ziO_ (prog:Program) (w:World) (x:Str) (t:Tok):(mixKind prog w).is (.inr x) (.str x t)=true:=zkW_ x t
end L2
namespace L2
open PySem PySem.Spec PyProof.Rows
inductive V where
 | non | bl (b:Bool) | int (i:Int) | str (x:Str) | byt (b:Array UInt8) | flt (b:UInt64) | ref (a:Addr) | ty (n:String)
 deriving DecidableEq
noncomputable def RelV:V→Value→Prop
 | .non,u=>u=Value.none
 | .bl b,u=>u=Value.bool b
 | .int i,u=>∃ t,u=Value.int i t
 | .str x,u=>∃ t,u=Value.str x t
 | .byt b,u=>∃ t,u=Value.bytes b t
 | .flt b,u=>∃ t,u=Value.float b t
 | .ref a,u=>u=Value.ref a
 | .ty n,u=>u=Value.type n
noncomputable abbrev Vals:List V→List Value→Prop:=Paired RelV
theorem Vals.length {xs:List V}{us:List Value}(r:Vals xs us):xs.length=us.length:=Paired.length r
theorem Vals.get:∀ {xs:List V}{us:List Value}{i:Nat}{x:V},Vals xs us→xs[i]?=some x→∃ u,us[i]?=some u∧RelV x u
 | _,_,_,_,.nil,e=>by simp at e
 | _,_,0,_,.cons r _,e=>by simp at e; subst e; exact ⟨_,rfl,r⟩
 | _,_,i+1,x,.cons _ t,e=>by
  obtain ⟨u,h1,h2⟩:=Vals.get (i:=i) (x:=x) t (by simpa using e)
  exact ⟨u,by simpa using h1,h2⟩
theorem Vals.set {x:V}{u:Value}(r:RelV x u):∀ {xs:List V}{us:List Value}(i:Nat),Vals xs us→Vals (xs.set i x) (us.set i u)
 | _,_,_,.nil=>.nil
 | _,_,0,.cons _ t=>.cons r t
 | _,_,i+1,.cons q t=>.cons q (Vals.set r i t)
theorem Vals.append:∀ {xs ys:List V}{us ws:List Value},Vals xs us→Vals ys ws→Vals (xs++ys) (us++ws)
 | _,_,_,_,.nil,s=>s
 | _,_,_,_,.cons r t,s=>.cons r (Vals.append t s)
theorem Vals.take:∀ {xs:List V}{us:List Value}(n:Nat),Vals xs us→Vals (xs.take n) (us.take n)
 | _,_,0,_=>.nil
 | _,_,_+1,.nil=>.nil
 | _,_,n+1,.cons r t=>.cons r (Vals.take n t)
theorem Vals.drop:∀ {xs:List V}{us:List Value}(n:Nat),Vals xs us→Vals (xs.drop n) (us.drop n)
 | _,_,0,r=>r
 | _,_,_+1,.nil=>.nil
 | _,_,n+1,.cons _ t=>Vals.drop n t
noncomputable def RelO:Option V→Option Value→Prop
 | some v,some u=>RelV v u
 | none,none=>True
 | _,_=>False
noncomputable def KV {κ:Type}:List (κ×V)→List (κ×Value)→Prop:=Paired fun (p:κ×V) (q:κ×Value)=>p.1=q.1∧RelV p.2 q.2
noncomputable def kV:Key→V
 | .inl i=>.int i
 | .inr x=>.str x
inductive HO where
 | lst (xs:List V)
 | tup (xs:List V)
 | dK (kvs:List (Key×V)) | dT (kvs:List (List Key×V))
 | set (S:Int→Bool) (n:Nat)
 | ins (C dx:Addr) (fs:List (Str×V))
 | own (x:Addr)
 | xd (fs:List (Str×V))
 | met (f x:Addr)
 | rng (lo hi:Int)
 | frz (o:Obj) (u:HO)
 | tbl (ps:Array Value)
 | ext (φ:Heap→Prop)
noncomputable abbrev Hp:=Addr→Option HO
noncomputable def upd (H:Hp) (a:Addr) (o:HO):Hp:=fun b=>if b=a then some o else H b
theorem zaY_ {H:Hp}{a:Addr}{o:HO}:upd H a o a=some o:=by unfold upd; rw [if_pos rfl]
theorem zaT_ {H:Hp}{a b:Addr}{o:HO}(h:b≠a):upd H a o b=H b:=by unfold upd; rw [if_neg h]
theorem ne_of {H:Hp}{a b:Addr}{o u:HO}(h:H a=some o) (h':H b=some u) (d:o≠u):a≠b:=by
 intro e; subst e; rw [h] at h'; exact d (Option.some.inj h')
theorem zcs_ {H:Hp}{a b:Addr}{o:HO}(h:H a=some o) (h':H b=none):a≠b:=by
 intro e; subst e; rw [h] at h'; cases h'
section
variable (P:Program) (w:World)
noncomputable def ObjOk (H:Hp) (h:Heap) (a:Addr):HO→Prop
 | .lst xs=>xs.length≤sizeLine∧∃ (its:List Value) (n:Nat),Vals xs its∧h.get? a=some { cls:=.type "list",data:=.seq its.toArray n }
 | .tup xs=>xs.length≤sizeLine∧∃ its:List Value,Vals xs its∧IsTup h a its.toArray
 | .dK kvs=>kvs.length≤sizeLine∧(a == sysModules)=false∧∃ vs,KV kvs vs∧h.DictOf (mixKind P w) a vs
 | .dT kvs=>kvs.length≤sizeLine∧(a == sysModules)=false∧∃ xs:List (List Key×Addr×Value),
   Paired (fun (p:List Key×V) (q:List Key×Addr×Value)=>p.1=q.1∧H q.2.1=some (.tup (p.1.map kV))∧RelV p.2 q.2.2) kvs xs ∧
   ∃ o es ep,h.get? a=some o∧o.ExactDict∧o.data=.dict es ep∧es.toList=xs.map (entryOfKey (tupleKind (mixKind P w)))∧(xs.map (·.1)).Nodup
 | .set S n=>h.SetOf (intKind P w) a S n
 | .ins C dx fs=>H dx=some (.own a)∧fs.length≤1000∧dx≠a∧h.get? a=some (PySem.W.instObj C dx) ∧
   ∃ mA,h.Ns1 dx mA∧(∀ f,RelO (fs.lookup f) (mA f))∧PySem.Within mA (fs.map (·.1))
 | .own _=>∃ o,h.get? a=some o
 | .xd fs=>∃ mA,h.Ns1 a mA∧∀ f,RelO (fs.lookup f) (mA f)
 | .rng lo hi=>∃ t u v,h.get? a=some { cls:=.type "range",data:=.fields #[.int lo t,.int hi u,.int 1 v] }
 | .frz o u=>h.get? a=some o∧ObjOk H h a u
 | .tbl ps=>h.get? a=some { cls:=.none,data:=.fields ps }
 | .met f x=>h.get? a=some (PySem.W.methodObj (.ref f) (.ref x))
 | .ext φ=>φ h∧(∃ o,h.get? a=some o)∧∀ h1 h2:Heap,φ h1→(∀ o,h1.get? a=some o→h2.get? a=some o)→φ h2
noncomputable def HOk (H:Hp) (h:Heap):Prop:=∀ a o,H a=some o→ObjOk P w H h a o
end
section
variable {P:Program}{w:World}{H H':Hp}{h h':Heap}{a:Addr}{o:HO}
theorem ObjOk.lt (x:ObjOk P w H h a o):a<h.objs.size:=by
 cases o with
 | lst xs=>obtain ⟨_,_,_,_,e⟩:=x; exact Heap.lt_size e
 | tup xs=>obtain ⟨_,_,_,p⟩:=x; exact p.lt
 | dK kvs=>obtain ⟨_,_,_,_,o,_,_,e,_⟩:=x; exact Heap.lt_size e
 | dT kvs=>obtain ⟨_,_,_,_,o,_,_,e,_⟩:=x; exact Heap.lt_size e
 | set S n=>obtain ⟨o,_,_,_,e,_⟩:=x; exact Heap.lt_size e
 | ins C dx fs=>obtain ⟨_,_,_,e,_⟩:=x; exact Heap.lt_size e
 | own y=>obtain ⟨_,e⟩:=x; exact Heap.lt_size e
 | xd fs=>obtain ⟨_,⟨_,_,_,e,_⟩,_⟩:=x; exact Heap.lt_size e
 | rng lo hi=>obtain ⟨_,_,_,e⟩:=x; exact Heap.lt_size e
 | frz ob u=>obtain ⟨e,_⟩:=x; exact Heap.lt_size e
 | tbl ps=>exact Heap.lt_size (show h.get? a=some _ from x)
 | met f y=>exact Heap.lt_size (show h.get? a=some _ from x)
 | ext φ=>obtain ⟨_,⟨_,e⟩,_⟩:=x; exact Heap.lt_size e
theorem Paired.mapP {α β:Type}{F G:α→β→Prop}:∀ {l₁:List α}{l₂:List β},Paired F l₁ l₂→(∀ a b,F a b→G a b)→Paired G l₁ l₂
 | _,_,.nil,_=>.nil
 | _,_,.cons r t,f=>.cons (f _ _ r) (Paired.mapP t f)
theorem ObjOk.stay (x:ObjOk P w H h a o) (k:∀ b u,(b=a∨H b=some (.own a))→h.get? b=some u→h'.get? b=some u)
  (ho:∀ b,H b=some (.own a)→H' b=some (.own a)) (ht:∀ b xs,H b=some (.tup xs)→H' b=some (.tup xs)):ObjOk P w H' h' a o:=by
 induction o with
 | lst xs=>obtain ⟨z,its,n,r,e⟩:=x; exact ⟨z,its,n,r,k _ _ (.inl rfl) e⟩
 | tup xs=>obtain ⟨z,its,r,ob,e,c⟩:=x; exact ⟨z,its,r,ob,k _ _ (.inl rfl) e,c⟩
 | dK kvs=>obtain ⟨z,y,vs,r,ob,es,ep,e,c⟩:=x; exact ⟨z,y,vs,r,ob,es,ep,k _ _ (.inl rfl) e,c⟩
 | dT kvs =>
  obtain ⟨z,y,xs,r,ob,es,ep,e,c⟩:=x
  exact ⟨z,y,xs,Paired.mapP r fun p q z=>⟨z.1,ht _ _ z.2.1,z.2.2⟩,ob,es,ep,k _ _ (.inl rfl) e,c⟩
 | set S n=>obtain ⟨ob,es,ep,t,e,c⟩:=x; exact ⟨ob,es,ep,t,k _ _ (.inl rfl) e,c⟩
 | ins C dx fs =>
  obtain ⟨d,z,ne,e,mA,⟨od,es,ep,e2,c⟩,r⟩:=x
  exact ⟨ho _ d,z,ne,k _ _ (.inl rfl) e,mA,⟨od,es,ep,k _ _ (.inr d) e2,c⟩,r⟩
 | own y=>obtain ⟨ob,e⟩:=x; exact ⟨ob,k _ _ (.inl rfl) e⟩
 | xd fs=>obtain ⟨mA,⟨od,es,ep,e,c⟩,r⟩:=x; exact ⟨mA,⟨od,es,ep,k _ _ (.inl rfl) e,c⟩,r⟩
 | rng lo hi=>obtain ⟨t,u,v,e⟩:=x; exact ⟨t,u,v,k _ _ (.inl rfl) e⟩
 | frz ob u ih=>obtain ⟨e,q⟩:=x; exact ⟨k _ _ (.inl rfl) e,ih q⟩
 | tbl ps =>
  have e:h.get? a=some { cls:=.none,data:=.fields ps }:=x
  show h'.get? a=some { cls:=.none,data:=.fields ps }
  exact k a _ (.inl rfl) e
 | met f y =>
  have e:h.get? a=some (PySem.W.methodObj (.ref f) (.ref y)):=x
  show h'.get? a=some (PySem.W.methodObj (.ref f) (.ref y))
  exact k a _ (.inl rfl) e
 | ext φ=>obtain ⟨p,⟨o,e⟩,st⟩:=x; exact ⟨st _ _ p fun o q=>k _ _ (.inl rfl) q,⟨o,k _ _ (.inl rfl) e⟩,st⟩
theorem HOk.lt (x:HOk P w H h) (e:H a=some o):a<h.objs.size:=(x a o e).lt
theorem HOk.fresh (x:HOk P w H h) (e:h.objs.size≤a):H a=none:=by
 cases q:H a with
 | none=>rfl
 | some u=>exact absurd (Nat.lt_of_lt_of_le (x.lt q) e) (Nat.lt_irrefl _)
theorem HOk.kept (x:HOk P w H h) (k:∀ b u,h.get? b=some u→h'.get? b=some u):HOk P w H h':=fun a o e =>
 (x a o e).stay (fun b u _ q=>k b u q) (fun _ q=>q) fun _ _ q=>q
theorem HOk.laid (x:HOk P w H h) (k:∀ b u,h.get? b=some u→h'.get? b=some u) (hp:h.objs.size≤a) (new:ObjOk P w (upd H a o) h' a o):HOk P w (upd H a o) h':=fun b u e=>by
 have hn:=x.fresh hp
 by_cases hb:b=a
 ·subst hb; rw [zaY_] at e; cases e; exact new
 ·rw [zaT_ hb] at e
  exact (x b u e).stay (fun c v _ q=>k c v q) (fun c q=>by rw [zaT_ (zcs_ q hn)]; exact q) fun c xs q=>by rw [zaT_ (zcs_ q hn)]; exact q
end
noncomputable def Rd (H:Hp) (a:Addr) (u:HO):Prop:=H a=some u∨∃ o,H a=some (.frz o u)
theorem Rd.ok {P:Program}{w:World}{H:Hp}{h:Heap}{a:Addr}{u:HO}(r:Rd H a u) (x:HOk P w H h):ObjOk P w H h a u:=by
 rcases r with r | ⟨o,r⟩
 ·exact x a u r
 ·obtain ⟨_,q⟩:=x a _ r
  exact q
noncomputable def Mut:Option HO→Prop
 | some (.lst _)=>True
 | some (.dK _)=>True
 | some (.dT _)=>True
 | some (.set _ _)=>True
 | some (.ins _ _ _)=>True
 | some (.ext _)=>True
 | _=>False
section
variable {P:Program}{w:World}{H:Hp}{h h':Heap}{x e:Addr}{o':HO}
theorem HOk.write (ok:HOk P w H h) (mu:Mut (H x)) (he:e=x∨H e=some (.own x)) (k:∀ b u,b≠e→h.get? b=some u→h'.get? b=some u) (heo:∃ u,h'.get? e=some u)
  (new:ObjOk P w (upd H x o') h' x o'):HOk P w (upd H x o') h':=fun b u q=>by
 have nown:∀ c y,H c=some (.own y)→c≠x:=fun c y r z=>by subst z; rw [r] at mu; exact mu
 have ntup:∀ c xs,H c=some (.tup xs)→c≠x:=fun c xs r z=>by subst z; rw [r] at mu; exact mu
 by_cases hb:b=x
 ·subst hb; rw [zaY_] at q; cases q; exact new
 ·rw [zaT_ hb] at q
  by_cases hbe:b=e
  ·have q':H b=some (.own x):=by
    rcases he with z | z
    ·exact absurd (hbe.trans z) hb
    ·rw [hbe]; exact z
   rw [q] at q'; cases q'
   obtain ⟨v,hv⟩:=heo
   exact ⟨v,by rw [hbe]; exact hv⟩
  ·refine (ok b u q).stay (fun c v hc r=>k c v ?_ r) (fun c r=>by rw [zaT_ (nown c b r)]; exact r) fun c xs r=>by rw [zaT_ (ntup c xs r)]; exact r
   rcases hc with rfl | hc
   ·exact hbe
   ·rintro rfl
    rcases he with z | z
    ·exact nown c b hc z
    ·rw [hc] at z; cases z; exact hb rfl
end
structure Un (fs ex:List Addr) (H H':Hp) (h h':Heap):Prop where
 keep:∀ b o,h.get? b=some o→H b=none→b∉fs→b∉ex→h'.get? b=some o
 slot:∀ b o,h.get? b=some o→H b=none→b∈fs→b∉ex→∃ sl,h'.get? b=some { o with slots:=sl }
 free:∀ b o,h.get? b=some o→H b=none→b∉ex→H' b=none
 there:∀ b o,h.get? b=some o→b∉ex→∃ o',h'.get? b=some o'
 tups:∀ b xs,H b=some (.tup xs)→H' b=some (.tup xs)
 frzs:∀ b o u,H b=some (.frz o u)→H' b=some (.frz o u)
 tbls:∀ b ps,H b=some (.tbl ps)→∃ more,H' b=some (.tbl (ps++more))
section
variable {fs fs' ex ex':List Addr}{H H1 H2:Hp}{h h1 h2 h':Heap}{a x e:Addr}{o:HO}
theorem Un.any (u:Un fs ex H H1 h h1) {b:Addr}{ob:Obj}(q:h.get? b=some ob) (n:H b=none) (hx:b∉ex):∃ sl,h1.get? b=some { ob with slots:=sl }:=by
 by_cases hb:b∈fs
 ·exact u.slot b ob q n hb hx
 ·exact ⟨ob.slots,u.keep b ob q n hb hx⟩
theorem Un.kept (k:∀ b u,h.get? b=some u→h'.get? b=some u):Un fs ex H H h h' :=
 ⟨fun b ob q _ _ _=>k b ob q,fun b ob q _ _ _=>⟨ob.slots,k b ob q⟩,fun _ _ _ n _=>n,fun b ob q _=>⟨ob,k b ob q⟩,fun _ _ q=>q,fun _ _ _ q=>q,fun _ ps q=>⟨#[],by rw [q]; simp⟩⟩
theorem Un.refl:Un fs ex H H h h:=Un.kept fun _ _ q=>q
theorem Un.laid (k:∀ b u,h.get? b=some u→h'.get? b=some u) (hp:h.objs.size≤a) (hn:H a=none):Un fs ex H (upd H a o) h h' where
 keep:=fun b u q _ _ _=>k b u q
 slot:=fun b u q _ _ _=>⟨u.slots,k b u q⟩
 free:=fun b u q n _=>by rw [zaT_ (Nat.ne_of_lt (Nat.lt_of_lt_of_le (Heap.lt_size q) hp))]; exact n
 there:=fun b u q _=>⟨u,k b u q⟩
 tups:=fun b xs q=>by rw [zaT_ (zcs_ q hn)]; exact q
 frzs:=fun b u xs q=>by rw [zaT_ (zcs_ q hn)]; exact q
 tbls:=fun b ps q=>⟨#[],by rw [zaT_ (zcs_ q hn),q]; simp⟩
theorem Un.write (mu:Mut (H x)) (he:e=x∨H e=some (.own x)) (k:∀ b u,b≠e→h.get? b=some u→h'.get? b=some u) (heo:∃ u,h'.get? e=some u):Un fs ex H (upd H x o) h h':=by
 have hx:∀ b,H b=none→b≠x:=fun b n z=>by subst z; rw [n] at mu; exact mu
 have hb:∀ b,H b=none→b≠e:=fun b n z=>by
  subst z
  rcases he with r | r
  ·exact hx b n r
  ·rw [n] at r; cases r
 have hm:∀ b u,H b=some u→¬ Mut (some u)→b≠x:=fun b u q nm z=>by subst z; rw [q] at mu; exact nm mu
 refine ⟨fun b u q n _ _=>k b u (hb b n) q,fun b u q n _ _=>⟨u.slots,k b u (hb b n) q⟩,fun b u q n _=>by rw [zaT_ (hx b n)]; exact n,fun b u q _=>?_,
  fun b xs q=>by rw [zaT_ (hm b _ q fun z=>z)]; exact q,fun b u xs q=>by rw [zaT_ (hm b _ q fun z=>z)]; exact q,fun b ps q=>⟨#[],by rw [zaT_ (hm b _ q fun z=>z),q]; simp⟩⟩
 by_cases hbe:b=e
 ·subst hbe; exact heo
 ·exact ⟨u,k b u hbe q⟩
end
noncomputable def trk (h:Heap) (H:Hp):List Addr:=(List.range h.objs.size).filter fun a=>(H a).isSome
noncomputable def hidT (h:Heap) (H:Hp):Heap:=PySem.W.hideAll h (trk h H)
theorem zlo_ (h:Heap) (H:Hp):(hidT h H).objs.size=h.objs.size:=PySem.W.hideAll_size _ _
theorem znx_ {h:Heap}{H:Hp}{b:Addr}{o:Obj}(e:h.get? b=some o) (n:H b=none):(hidT h H).get? b=some o :=
 PySem.W.hideAll_get _ e fun hm=>by
  have q:(H b).isSome=true:=(List.mem_filter.mp hm).2
  rw [n] at q; simp at q
theorem zoM_ {h:Heap}{H:Hp}{b:Addr}{o:Obj}(e:(hidT h H).get? b=some o):h.get? b=some o∧H b=none:=by
 have e':h.get? b=some o:=PySem.W.of_hideAll (trk h H) e
 refine ⟨e',?_⟩
 cases q:H b with
 | none=>rfl
 | some x =>
  have hm:b∈trk h H:=List.mem_filter.mpr ⟨List.mem_range.mpr (Heap.lt_size e'),by simp [q]⟩
  have z:(hidT h H).get? b=none:=PySem.W.hideAll_none (trk h H) hm
  rw [z] at e; cases e
noncomputable def allNews (g h:Heap) (L:Addr):List (Addr×Obj):=(List.range h.objs.size).filterMap fun a=>if a=L∨(g.get? a).isSome=true then none else (h.get? a).map fun o=>(a,o)
noncomputable def rest (g h:Heap) (L d:Addr):List (Addr×Obj):=(allNews g h L).filter fun p=>decide (p.1≠d)
end L2
namespace L2
open PySem PySem.Spec PyProof.Rows
structure Mod (K:PySem.W.Frag) (mg:Str→Option Value) (base:Heap):Prop where
 kin:K.In base
 glob:base.Ns mainGlobals mg
 blt:∃ mb,base.Ns builtinsNs mb∧∀ x:Str,x ≠ "__name__" → mb x=bootBuiltins x
 nolimit:base.NoLimit
structure Cx where
 prog:Program
 w:World
 K:PySem.W.Frag
 mg:Str→Option Value
 base:Heap
 A:Around
 N:List Str
 s₀:Shared
 H₀:Hp
 env:Env
 outer:List Env
 stack:List Env
 ex:List Addr
 fn:Str→Bool
 calm:Bool
 pn:List (Addr×Obj)
 xe:Value→Shared→Prop
noncomputable def frs (l:List Env):List Addr:=l.filterMap (·.frame)
noncomputable abbrev Cx.fs (X:Cx):List Addr:=frs X.outer
noncomputable def Vis (sc:Scope) (x:Str):Prop:=sc.names.lookup x=some .local∨sc.names.lookup x=some .cell∨sc.names.lookup x=some .free
noncomputable def Loc (sc:Scope) (x:Str):Prop:=sc.names.lookup x=some .local∨sc.names.lookup x=some .cell
noncomputable def Look (env:Env) (h:Heap) (m:Str→Option Value) (x:Str) (u:Value):Prop :=
 (env.kindOf x=some .local∧m x=some u)∨((env.kindOf x=some .cell∨env.kindOf x=some .free)∧∃ c,env.cells.lookup x=some c∧h.IsCell c (some u))
structure Cx.Ok (X:Cx):Prop where
 mod:Mod X.K X.mg X.base
 kind:X.env.scope.kind=.function
 glob:X.env.globals=mainGlobals
 blt:X.env.builtins=builtinsNs
 above:X.s₀.heap.objs.size≤X.env.locals
 inj:∀ x y c,X.env.cells.lookup x=some c→X.env.cells.lookup y=some c→x=y
 has:∀ x,(X.env.kindOf x=some .cell∨X.env.kindOf x=some .free)→∃ c,X.env.cells.lookup x=some c
 cab:∀ x c,X.fn x=true→X.env.cells.lookup x=some c→X.s₀.heap.objs.size≤c
 hd:X.calm=true→X.A.handled=none
 frames:X.A.frames=some X.stack
 stk:X.stack=X.outer∨(X.stack=X.env::X.outer∧X.env.frame=some X.env.locals)
 exf:∀ b∈X.ex,b≠X.env.locals∧∀ x c,X.env.cells.lookup x=some c→c≠b
 bs:∀ b o,X.base.get? b=some o→X.s₀.heap.get? b=some o∧X.H₀ b=none
 bsz:X.base.objs.size≤X.s₀.heap.objs.size
 noex:∀ b o,X.base.get? b=some o→b∉X.ex
 exfs:∀ b∈X.ex,b∉X.fs
 funs:X.s₀.heap.FunFrames X.base X.outer
 frf:∀ b∈X.fs,X.H₀ b=none
structure Inv (X:Cx) (pins:List (Addr×Obj)) (σ:List (Option V)) (H:Hp) (s:Shared):Prop where
 ok:X.Ok
 os:s.os=X.s₀.os
 bare:AllBare s.gens
 base:Un X.fs X.ex X.H₀ H X.s₀.heap s.heap
 loc:∃ m,s.heap.Ns X.env.locals m∧∀ (i:Nat) (x:Str) (v:V),X.N[i]?=some x→σ[i]?=some (some v)→Vis X.env.scope x→∃ u,RelV v u∧Look X.env s.heap m x u
 cell:∀ x c,X.env.cells.lookup x=some c→∃ v,s.heap.IsCell c v
 free:H X.env.locals=none
 freeC:∀ x c,X.env.cells.lookup x=some c→H c=none
 pin:∀ p∈X.pn++pins,s.heap.get? p.1=some p.2∧H p.1=none∧p.1≠X.env.locals∧p.1∉X.fs∧∀ v,p.2.data≠.cell v
 hok:HOk X.prog X.w H s.heap
 len:σ.length=X.N.length
section
variable {X:Cx}{pins:List (Addr×Obj)}{σ:List (Option V)}{H H':Hp}{s:Shared}{h':Heap}
theorem Cx.Ok.nofr (ok:X.Ok) {b:Addr}{o:Obj}(e:X.base.get? b=some o):b∉X.fs:=fun hb=>by
 have:=(ok.funs.mem hb).1
 rw [e] at this; cases this
theorem Inv.bs (I:Inv X pins σ H s):∀ b o,X.base.get? b=some o→s.heap.get? b=some o∧H b=none:=fun b o e =>
 ⟨I.base.keep b o (I.ok.bs b o e).1 (I.ok.bs b o e).2 (I.ok.nofr e) (I.ok.noex b o e),I.base.free b o (I.ok.bs b o e).1 (I.ok.bs b o e).2 (I.ok.noex b o e)⟩
theorem Inv.bk (I:Inv X pins σ H s):∀ b o,X.base.get? b=some o→s.heap.get? b=some o:=fun b o e=>(I.bs b o e).1
theorem Inv.mod (I:Inv X pins σ H s):Mod X.K X.mg X.base:=I.ok.mod
theorem Inv.kIn (I:Inv X pins σ H s):X.K.In s.heap:=I.ok.mod.kin.keeps I.bk
theorem Inv.lt (I:Inv X pins σ H s):X.env.locals<s.heap.objs.size:=let ⟨_,hn,_⟩:=I.loc; hn.lt
theorem Inv.sz (I:Inv X pins σ H s):X.s₀.heap.objs.size≤s.heap.objs.size:=Nat.le_trans I.ok.above (Nat.le_of_lt I.lt)
theorem Inv.nofs (I:Inv X pins σ H s) {a:Addr}(h:s.heap.objs.size≤a):a∉X.fs:=fun hb=>by
 obtain ⟨_,o,ho,_⟩:=I.ok.funs.mem hb
 exact absurd (Nat.lt_of_lt_of_le (Heap.lt_size ho) (Nat.le_trans I.sz h)) (Nat.lt_irrefl _)
theorem Inv.cne (I:Inv X pins σ H s):∀ x c,X.env.cells.lookup x=some c→c≠X.env.locals:=fun x c e z=>by
 obtain ⟨v,o,ho,hd⟩:=I.cell x c e
 obtain ⟨m,⟨o',es,ep,ho',hd',_⟩,_⟩:=I.loc
 rw [z,ho'] at ho; cases ho; rw [hd'] at hd; cases hd
theorem Inv.funs (I:Inv X pins σ H s):s.heap.FunFrames X.base X.outer:=by
 have all:∀ (l:List Env),(∀ b∈frs l,b∈X.fs)→X.s₀.heap.FunFrames X.base l→s.heap.FunFrames X.base l:=by
  intro l
  induction l with
  | nil=>intro _ _; trivial
  | cons env r ih =>
   intro hs hl
   obtain ⟨hk,⟨L,o,hf,hn,ho,hd⟩,hr⟩:=hl
   have hL:L∈X.fs:=hs L (by unfold frs; rw [List.filterMap_cons,hf]; exact List.mem_cons_self)
   obtain ⟨sl,e⟩:=I.base.slot L o ho (I.ok.frf L hL) hL fun z=>I.ok.exfs L z hL
   exact ⟨hk,⟨L,_,hf,hn,e,hd⟩,ih (fun b hb=>hs b (by unfold frs; rw [List.filterMap_cons,hf]; exact List.mem_cons_of_mem _ hb)) hr⟩
 exact all X.outer (fun _ hb=>hb) I.ok.funs
theorem Inv.stack (I:Inv X pins σ H s):s.heap.FunFrames X.base X.stack:=by
 rcases I.ok.stk with e | ⟨e,hf⟩
 ·rw [e]; exact I.funs
 ·rw [e]
  obtain ⟨m,hn,_⟩:=I.loc
  refine .cons (by rw [I.ok.kind]; decide) hf hn ?_ I.funs
  exact Heap.get?_none_of_le (Nat.le_trans I.ok.bsz I.ok.above)
theorem Inv.stkSub (I:Inv X pins σ H s):∀ b∈frs X.stack,b∈X.env.locals::X.fs:=fun b hb=>by
 rcases I.ok.stk with e | ⟨e,hf⟩
 ·rw [e] at hb; exact List.mem_cons_of_mem _ hb
 ·rw [e] at hb
  unfold frs at hb
  rw [List.filterMap_cons,hf] at hb
  exact hb
theorem Inv.stkFree (I:Inv X pins σ H s):∀ b∈frs X.stack,H b=none:=fun b hb=>by
 rcases List.mem_cons.mp (I.stkSub b hb) with e | hb
 ·rw [e]; exact I.free
 ·obtain ⟨_,o,ho,_⟩:=I.ok.funs.mem hb
  exact I.base.free b o ho (I.ok.frf b hb) fun z=>I.ok.exfs b z hb
theorem Inv.step {g':Array GenState}{t':Nat}{d':Drawn}{ch:List Addr}(I:Inv X pins σ H s)
  (hch:∀ b∈ch,(b∈X.ex∨X.s₀.heap.objs.size≤b)∧b≠X.env.locals∧(∀ x c,X.env.cells.lookup x=some c→c≠b)∧∀ p∈X.pn++pins,p.1≠b)
  (keep:∀ b o,b≠X.env.locals→b∉X.fs→b∉ch→s.heap.get? b=some o→H b=none→h'.get? b=some o)
  (slot:∀ b o,b≠X.env.locals→b∈X.fs→b∉ch→s.heap.get? b=some o→H b=none→∃ sl,h'.get? b=some { o with slots:=sl }) (free:∀ b o,b∉ch→s.heap.get? b=some o→H b=none→H' b=none)
  (there:∀ b o,b∉ch→s.heap.get? b=some o→∃ o',h'.get? b=some o')
  (tups:∀ b xs,H b=some (.tup xs)→H' b=some (.tup xs)) (frzs:∀ b o u,H b=some (.frz o u)→H' b=some (.frz o u)) (tbls:∀ b ps,H b=some (.tbl ps)→∃ more,H' b=some (.tbl (ps++more)))
  (ns:∀ m,s.heap.Ns X.env.locals m→h'.Ns X.env.locals m) (hok:HOk X.prog X.w H' h') (hg:AllBare g') :
  Inv X pins σ H' { s with heap:=h',gens:=g',drawn:=d',toks:=t' }:=by
 have neL:∀ b o,X.s₀.heap.get? b=some o→b≠X.env.locals:=fun b o e=>Nat.ne_of_lt (Nat.lt_of_lt_of_le (Heap.lt_size e) I.ok.above)
 have neC:∀ b o,X.s₀.heap.get? b=some o→b∉X.ex→b∉ch:=fun b o e hx hb=>by
  rcases (hch b hb).1 with z | z
  ·exact hx z
  ·exact absurd (Nat.lt_of_lt_of_le (Heap.lt_size e) z) (Nat.lt_irrefl _)
 have cellK:∀ x c,X.env.cells.lookup x=some c→∀ v,s.heap.IsCell c v→h'.IsCell c v:=fun x c e v ⟨o,ho,hd⟩=>by
  have nch:c∉ch:=fun z=>(hch c z).2.2.1 x c e rfl
  by_cases hc:c∈X.fs
  ·obtain ⟨sl,q⟩:=slot c o (I.cne x c e) hc nch ho (I.freeC x c e)
   exact ⟨_,q,hd⟩
  ·exact ⟨o,keep c o (I.cne x c e) hc nch ho (I.freeC x c e),hd⟩
 refine ⟨I.ok,I.os,hg,⟨fun b o e n hb hx=>?_,fun b o e n hb hx=>?_,fun b o e n hx=>?_,fun b o e hx=>?_,fun b xs e=>tups b xs (I.base.tups b xs e),fun b o xs e=>frzs b o xs (I.base.frzs b o xs e),fun b ps e=>?_⟩,?_,fun x c e=>?_,?_,fun x c e=>?_,fun p hp=>?_,hok,I.len⟩
 ·exact keep b o (neL b o e) hb (neC b o e hx) (I.base.keep b o e n hb hx) (I.base.free b o e n hx)
 ·obtain ⟨sl,e1⟩:=I.base.slot b o e n hb hx
  obtain ⟨sl',e2⟩:=slot b _ (neL b o e) hb (neC b o e hx) e1 (I.base.free b o e n hx)
  exact ⟨sl',e2⟩
 ·obtain ⟨o',e1⟩:=I.base.there b o e hx
  exact free b o' (neC b o e hx) e1 (I.base.free b o e n hx)
 ·obtain ⟨o',e1⟩:=I.base.there b o e hx
  exact there b o' (neC b o e hx) e1
 ·obtain ⟨m1,e1⟩:=I.base.tbls b ps e
  obtain ⟨m2,e2⟩:=tbls b _ e1
  exact ⟨m1++m2,by rw [e2,Array.append_assoc]⟩
 ·obtain ⟨m,hn,hl⟩:=I.loc
  refine ⟨m,ns m hn,fun i x v e1 e2 e3=>?_⟩
  obtain ⟨u,r,l⟩:=hl i x v e1 e2 e3
  refine ⟨u,r,?_⟩
  rcases l with l | ⟨k,c,e,z⟩
  ·exact .inl l
  ·exact .inr ⟨k,c,e,cellK x c e _ z⟩
 ·obtain ⟨v,z⟩:=I.cell x c e
  exact ⟨v,cellK x c e v z⟩
 ·obtain ⟨m,⟨o,_,_,ho,_⟩,_⟩:=I.loc
  exact free _ o (fun z=>(hch _ z).2.1 rfl) ho I.free
 ·obtain ⟨v,o,ho,hd⟩:=I.cell x c e
  exact free c o (fun z=>(hch c z).2.2.1 x c e rfl) ho (I.freeC x c e)
 ·obtain ⟨e,n,ne,nf,d⟩:=I.pin p hp
  have nch:p.1∉ch:=fun z=>(hch p.1 z).2.2.2 p hp rfl
  exact ⟨keep p.1 p.2 ne nf nch e n,free p.1 p.2 nch e n,ne,nf,d⟩
theorem Inv.un {t':Nat}(I:Inv X pins σ H s) (u:Un X.fs [] H H' s.heap h') (hok:HOk X.prog X.w H' h'):Inv X pins σ H' { s with heap:=h',toks:=t' }:=by
 obtain ⟨m,⟨o,es,ep,ho,r⟩,_⟩:=id I.loc
 obtain ⟨sl,hL⟩:=u.any ho I.free (by simp)
 exact I.step (g':=s.gens) (d':=s.drawn) (ch:=[]) (fun _ z=>nomatch z) (fun b o _ hb _ e n=>u.keep b o e n hb (by simp)) (fun b o _ hb _ e n=>u.slot b o e n hb (by simp)) (fun b o _ e n=>u.free b o e n (by simp)) (fun b o _ e=>u.there b o e (by simp)) u.tups u.frzs u.tbls (fun m' hm=>by
  obtain ⟨o',es',ep',ho',r'⟩:=hm
  rw [ho] at ho'; cases ho'
  exact ⟨_,es',ep',hL,r'⟩) hok I.bare
theorem Inv.call {g':Array GenState}{t':Nat}{d':Drawn}{ch:List Addr}(I:Inv X pins σ H s) (u:Un (frs X.stack) ch H H' s.heap h') (hok:HOk X.prog X.w H' h') (hg:AllBare g')
  (hch:∀ b∈ch,(b∈X.ex∨X.s₀.heap.objs.size≤b)∧b≠X.env.locals∧(∀ x c,X.env.cells.lookup x=some c→c≠b)∧∀ p∈X.pn++pins,p.1≠b) :
  Inv X pins σ H' { s with heap:=h',gens:=g',drawn:=d',toks:=t' }:=by
 obtain ⟨m,⟨o,es,ep,ho,r⟩,_⟩:=id I.loc
 obtain ⟨sl,hL⟩:=u.any ho I.free fun z=>(hch _ z).2.1 rfl
 exact I.step (ch:=ch) hch (fun b o hL hb hc e n=>u.keep b o e n (fun z=>(List.mem_cons.mp (I.stkSub b z)).elim hL hb) hc) (fun b o _ _ hc e n=>u.any e n hc) (fun b o hc e n=>u.free b o e n hc) (fun b o hc e=>u.there b o e hc) u.tups u.frzs u.tbls (fun m' hm=>by
  obtain ⟨o',es',ep',ho',r'⟩:=hm
  rw [ho] at ho'; cases ho'
  exact ⟨_,es',ep',hL,r'⟩) hok hg
theorem Inv.turned {t':Nat}{it:Addr}(I:Inv X pins σ H s) (k:∀ b o,b≠it→s.heap.get? b=some o→h'.get? b=some o) (hn:H it=none) (hL:it≠X.env.locals)
  (h1:it∈X.ex∨X.s₀.heap.objs.size≤it) (h2:∀ x c,X.env.cells.lookup x=some c→c≠it) (h3:∀ p∈X.pn++pins,p.1≠it):Inv X pins σ H { s with heap:=h',toks:=t' }:=by
 have nit:∀ b u,H b=some u→b≠it:=fun b u e z=>by rw [z,hn] at e; cases e
 refine I.step (g':=s.gens) (d':=s.drawn) (ch:=[it]) (fun b hb=>?_) (fun b o _ _ hc e _=>k b o (fun z=>hc (by simp [z])) e) (fun b o _ _ hc e _=>⟨o.slots,k b o (fun z=>hc (by simp [z])) e⟩) (fun _ _ _ _ n=>n)
  (fun b o hc e=>⟨o,k b o (fun z=>hc (by simp [z])) e⟩) (fun _ _ e=>e) (fun _ _ _ e=>e) (fun b ps e=>⟨#[],by rw [e]; simp⟩) (fun m hm=>?_) (fun b u e=>?_) I.bare
 ·have e:b=it:=by simpa using hb
  subst e
  exact ⟨h1,hL,h2,h3⟩
 ·obtain ⟨o,es,ep,ho,r⟩:=hm
  exact ⟨o,es,ep,k _ o (Ne.symm hL) ho,r⟩
 ·refine (I.hok b u e).stay (fun c v hc q=>k c v ?_ q) (fun _ q=>q) fun _ _ q=>q
  rcases hc with z | z
  ·rw [z]; exact nit b u e
  ·exact nit c _ z
theorem Inv.tok (I:Inv X pins σ H s) (t:Nat):Inv X pins σ H { s with toks:=t }:=I.un (h':=s.heap) (t':=t) Un.refl I.hok
theorem Inv.kept {t':Nat}(I:Inv X pins σ H s) (k:∀ b u,s.heap.get? b=some u→h'.get? b=some u):Inv X pins σ H { s with heap:=h',toks:=t' }:=I.un (Un.kept k) (I.hok.kept k)
theorem Inv.laid {a:Addr}{o:HO}{t':Nat}(I:Inv X pins σ H s) (k:∀ b u,s.heap.get? b=some u→h'.get? b=some u) (hp:s.heap.objs.size≤a) (new:ObjOk X.prog X.w (upd H a o) h' a o) :
  Inv X pins σ (upd H a o) { s with heap:=h',toks:=t' }:=I.un (Un.laid k hp (I.hok.fresh hp)) (I.hok.laid k hp new)
theorem Inv.write {x e:Addr}{o:HO}{t':Nat}(I:Inv X pins σ H s) (mu:Mut (H x)) (he:e=x∨H e=some (.own x)) (k:∀ b u,b≠e→s.heap.get? b=some u→h'.get? b=some u) (heo:∃ u,h'.get? e=some u)
  (new:ObjOk X.prog X.w (upd H x o) h' x o):Inv X pins σ (upd H x o) { s with heap:=h',toks:=t' }:=I.un (Un.write mu he k heo) (I.hok.write mu he k heo new)
theorem Inv.pins_of {pins':List (Addr×Obj)}(I:Inv X pins σ H s) (h:∀ p∈pins',s.heap.get? p.1=some p.2∧H p.1=none∧p.1≠X.env.locals∧p.1∉X.fs∧∀ v,p.2.data≠.cell v):Inv X pins' σ H s :=
 ⟨I.ok,I.os,I.bare,I.base,I.loc,I.cell,I.free,I.freeC,fun p hp=>(List.mem_append.mp hp).elim (fun z=>I.pin p (List.mem_append_left _ z)) (h p),I.hok,I.len⟩
theorem zi5_ {N:List Str}(hN:N.Nodup) {i j:Nat}{x:Str}(a:N[i]?=some x) (b:N[j]?=some x):i=j:=by
 obtain ⟨h1,e1⟩:=List.getElem?_eq_some_iff.mp a
 obtain ⟨h2,e2⟩:=List.getElem?_eq_some_iff.mp b
 exact (List.getElem_inj hN).mp (e1.trans e2.symm)
theorem zlz_ {M:Model}{A:Around}{E:Value→Shared→Prop}{i:Nat}{x:Str}{v:V}{u:Value}{Q:Unit→Shared→Prop}(I:Inv X pins σ H s) (hN:X.N.Nodup) (hi:X.N[i]?=some x) (hx:Loc X.env.scope x) (r:RelV v u)
  (h:∀ s',Inv X pins (σ.set i (some v)) H s'→(∃ a,Heap.SameBut a s.heap s'.heap∧(a=X.env.locals∨X.env.cells.lookup x=some a))→Q () s') (hf:X.fn x=true∨X.env.scope.names.lookup x=some .local:=by first | exact .inl rfl | exact .inr rfl | assumption):wpAny M A (storeName X.env x u) Q E s:=by
 obtain ⟨m,hn,hl⟩:=id I.loc
 have hcls:(X.env.scope.kind == .class || (X.env.scope.kind == .module && X.env.locals != X.env.globals))=false:=by rw [I.ok.kind]; rfl
 have hiσ:i<σ.length:=by rw [I.len]; exact (List.getElem?_eq_some_iff.mp hi).1
 have cne:=I.cne
 have tracked:∀ {a:Addr}{h':Heap},(∃ o,s.heap.get? a=some o∧H a=none)→Heap.SameBut a s.heap h'→HOk X.prog X.w H h':=fun {a h'} ha hs b ob e=>by
  obtain ⟨_,_,hfree⟩:=ha
  refine (I.hok b ob e).stay (fun c w' hc q=>(hs.2 c ?_).trans q) (fun _ q=>q) fun _ _ q=>q
  rintro rfl
  rcases hc with rfl | hc
  ·rw [hfree] at e; cases e
  ·rw [hfree] at hc; cases hc
 rcases hx with hk | hk
 ·refine wpAny_storeName_local hk hn (fun h' hn' hs=>?_) hcls
  obtain ⟨oL,_,_,hoL,_⟩:=id hn
  refine h _ ⟨I.ok,I.os,I.bare,⟨fun b o e n hb hx=>?_,fun b o e n hb hx=>?_,I.base.free,fun b o e hx=>?_,I.base.tups,I.base.frzs,I.base.tbls⟩,⟨_,hn',fun j y v' e1 e2 e3=>?_⟩,fun y c e=>?_,I.free,I.freeC,fun p hp=>?_,tracked ⟨oL,hoL,I.free⟩ hs,by simpa using I.len⟩ ⟨_,hs,.inl rfl⟩
  ·exact (hs.2 b (Nat.ne_of_lt (Nat.lt_of_lt_of_le (Heap.lt_size e) I.ok.above))).trans (I.base.keep b o e n hb hx)
  ·obtain ⟨sl,e1⟩:=I.base.slot b o e n hb hx
   exact ⟨sl,(hs.2 b (Nat.ne_of_lt (Nat.lt_of_lt_of_le (Heap.lt_size e) I.ok.above))).trans e1⟩
  ·obtain ⟨o',e1⟩:=I.base.there b o e hx
   exact ⟨o',(hs.2 b (Nat.ne_of_lt (Nat.lt_of_lt_of_le (Heap.lt_size e) I.ok.above))).trans e1⟩
  ·by_cases hj:j=i
   ·subst hj
    rw [hi] at e1; cases e1
    rw [List.getElem?_set_self hiσ] at e2
    cases e2
    exact ⟨u,r,.inl ⟨hk,by simp⟩⟩
   ·rw [List.getElem?_set_ne (Ne.symm hj)] at e2
    obtain ⟨u',r',q⟩:=hl j y v' e1 e2 e3
    refine ⟨u',r',?_⟩
    rcases q with ⟨k,e⟩ | ⟨k,c,e,z⟩
    ·refine .inl ⟨k,?_⟩
     have:y≠x:=fun e=>hj (zi5_ hN e1 (e ▸ hi))
     simp [this,e]
    ·exact .inr ⟨k,c,e,z.sameBut hs (cne y c e)⟩
  ·obtain ⟨w',z⟩:=I.cell y c e
   exact ⟨w',z.sameBut hs (cne y c e)⟩
  ·obtain ⟨e,n,ne,nf,d⟩:=I.pin p hp
   exact ⟨(hs.2 p.1 ne).trans e,n,ne,nf,d⟩
 ·have hfn:X.fn x=true:=by
   rcases hf with z | z
   ·exact z
   ·rw [z] at hk; cases hk
  obtain ⟨c,hc⟩:=I.ok.has x (.inl hk)
  obtain ⟨w',z⟩:=I.cell x c hc
  refine wpAny_storeName_cell I.ok.kind hk hc z (fun h' hc' hs=>?_)
  obtain ⟨oc,hoc,hocd⟩:=id z
  refine h { s with heap:=h' } ⟨I.ok,I.os,I.bare,⟨fun b o e n hb hx=>?_,fun b o e n hb hx=>?_,I.base.free,fun b o e hx=>?_,I.base.tups,I.base.frzs,I.base.tbls⟩,⟨m,hn.sameBut hs (Ne.symm (cne x c hc)),fun j y v' e1 e2 e3=>?_⟩,fun y c' e=>?_,I.free,I.freeC,fun p hp=>?_,tracked ⟨oc,hoc,I.freeC x c hc⟩ hs,by simpa using I.len⟩ ⟨c,hs,.inr hc⟩
  ·exact (hs.2 b (Nat.ne_of_lt (Nat.lt_of_lt_of_le (Heap.lt_size e) (I.ok.cab x c hfn hc)))).trans (I.base.keep b o e n hb hx)
  ·obtain ⟨sl,e1⟩:=I.base.slot b o e n hb hx
   exact ⟨sl,(hs.2 b (Nat.ne_of_lt (Nat.lt_of_lt_of_le (Heap.lt_size e) (I.ok.cab x c hfn hc)))).trans e1⟩
  ·obtain ⟨o',e1⟩:=I.base.there b o e hx
   exact ⟨o',(hs.2 b (Nat.ne_of_lt (Nat.lt_of_lt_of_le (Heap.lt_size e) (I.ok.cab x c hfn hc)))).trans e1⟩
  ·by_cases hj:j=i
   ·subst hj
    rw [hi] at e1; cases e1
    rw [List.getElem?_set_self hiσ] at e2
    cases e2
    exact ⟨u,r,.inr ⟨.inl hk,c,hc,hc'⟩⟩
   ·rw [List.getElem?_set_ne (Ne.symm hj)] at e2
    obtain ⟨u',r',q⟩:=hl j y v' e1 e2 e3
    refine ⟨u',r',?_⟩
    rcases q with q | ⟨k,c',e,z'⟩
    ·exact .inl q
    ·refine .inr ⟨k,c',e,z'.sameBut hs ?_⟩
     rintro rfl
     exact hj (zi5_ hN e1 (I.ok.inj _ _ _ e hc ▸ hi))
  ·by_cases hcc:c'=c
   ·subst hcc; exact ⟨_,hc'⟩
   ·obtain ⟨w2,z2⟩:=I.cell y c' e
    exact ⟨w2,z2.sameBut hs hcc⟩
  ·obtain ⟨e,n,ne,nf,d⟩:=I.pin p hp
   refine ⟨(hs.2 p.1 ?_).trans e,n,ne,nf,d⟩
   intro q
   rw [q,hoc] at e
   have q':oc=p.2:=Option.some.inj e
   exact d w' (by rw [← q']; exact hocd)
theorem zi9_ {M:Model}{A:Around}{E:Value→Shared→Prop}{i:Nat}{x:Str}{v:V}{u:Value}{Q:Unit→Shared→Prop}(I:Inv X pins σ H s) (hN:X.N.Nodup) (hi:X.N[i]?=some x) (hx:Loc X.env.scope x) (r:RelV v u)
  (h:∀ s',Inv X pins (σ.set i (some v)) H s'→Q () s') (hf:X.fn x=true∨X.env.scope.names.lookup x=some .local:=by first | exact .inl rfl | exact .inr rfl | assumption):wpAny M A (storeName X.env x u) Q E s :=
 zlz_ I hN hi hx r (fun s' I' _=>h s' I') hf
theorem Inv.call' {s':Shared}{ch:List Addr}(I:Inv X pins σ H s) (ho:s'.os=s.os) (u:Un (frs X.stack) ch H H' s.heap s'.heap) (hok:HOk X.prog X.w H' s'.heap) (hg:AllBare s'.gens)
  (hch:∀ b∈ch,(b∈X.ex∨X.s₀.heap.objs.size≤b)∧b≠X.env.locals∧(∀ x c,X.env.cells.lookup x=some c→c≠b)∧∀ p∈X.pn++pins,p.1≠b):Inv X pins σ H' s':=by
 obtain ⟨h',g',d',t',o'⟩:=s'
 have e:o'=s.os:=ho
 subst e
 exact I.call (g':=g') (t':=t') (d':=d') u hok hg hch
end
noncomputable abbrev XK:=Value→Option Addr→Hp→Prop
noncomputable abbrev St:=List (Option V)
noncomputable abbrev VK:=V→Hp→Prop
noncomputable abbrev TE:=St→Hp→VK→Prop
noncomputable abbrev TT:=St→Hp→(Bool→Hp→Prop)→Prop
noncomputable abbrev TA:=St→Hp→(List V→Hp→Prop)→Prop
structure Ends where
 nx:St→Hp→Prop
 rt:VK
 bk:St→Hp→Prop:=fun _ _=>False
 ct:St→Hp→Prop:=fun _ _=>False
noncomputable abbrev TS:=Ends→St→Hp→Prop
noncomputable def EP (X:Cx) (pins:List (Addr×Obj)) (σ:St) (Q:VK) (u:Value) (s':Shared):Prop:=∃ v H',Inv X pins σ H' s'∧RelV v u∧Q v H'
noncomputable def TP (X:Cx) (pins:List (Addr×Obj)) (σ:St) (Q:Bool→Hp→Prop) (b:Bool) (s':Shared):Prop:=∃ H',Inv X pins σ H' s'∧Q b H'
noncomputable def AP (X:Cx) (pins:List (Addr×Obj)) (σ:St) (Q:List V→Hp→Prop) (us:List Value) (s':Shared):Prop:=∃ vs H',Inv X pins σ H' s'∧Vals vs us∧Q vs H'
noncomputable def SP (X:Cx) (pins:List (Addr×Obj)) (D:Ends) (f:Flow) (s':Shared):Prop :=
 match f with
 | .next=>∃ σ' H',Inv X pins σ' H' s'∧D.nx σ' H'
 | .brk=>∃ σ' H',Inv X pins σ' H' s'∧D.bk σ' H'
 | .cont=>∃ σ' H',Inv X pins σ' H' s'∧D.ct σ' H'
 | .ret u=>∃ v σ' H',Inv X pins σ' H' s'∧RelV v u∧D.rt v H'
noncomputable def PE (X:Cx) (e:Expr) (t:TE):Prop :=
 ∀ (pins:List (Addr×Obj)) (s:Shared) (σ:St) (H:Hp) (Q:VK),Inv X pins σ H s→t σ H Q→wpAny (model X.prog X.w) X.A (eval e X.env) (EP X pins σ Q) X.xe s
noncomputable def PT (X:Cx) (e:Expr) (t:TT):Prop :=
 ∀ (pins:List (Addr×Obj)) (s:Shared) (σ:St) (H:Hp) (Q:Bool→Hp→Prop),Inv X pins σ H s→t σ H Q→wpAny (model X.prog X.w) X.A (isTrue e X.env (eval e X.env)) (TP X pins σ Q) X.xe s
noncomputable def PW (X:Cx) (e:Expr) (t:TT):Prop :=
 ∀ (whole:Sem Value) (pins:List (Addr×Obj)) (s:Shared) (σ:St) (H:Hp) (Q:Bool→Hp→Prop),Inv X pins σ H s→t σ H Q→wpAny (model X.prog X.w) X.A (isTrue e X.env whole) (TP X pins σ Q) X.xe s
theorem PW.pt {X:Cx}{e:Expr}{t:TT}(h:PW X e t):PT X e t:=h _
noncomputable def PA (X:Cx) (es:List Expr) (t:TA):Prop :=
 ∀ (pos:Pos) (pins:List (Addr×Obj)) (s:Shared) (σ:St) (H:Hp) (Q:List V→Hp→Prop),Inv X pins σ H s→t σ H Q→wpAny (model X.prog X.w) X.A (spliced (backTo pos (starEach es X.env))) (AP X pins σ Q) X.xe s
noncomputable def PS (X:Cx) (st:Stmt) (t:TS):Prop :=
 ∀ (pins:List (Addr×Obj)) (s:Shared) (σ:St) (H:Hp) (D:Ends),Inv X pins σ H s→t D σ H→wpAny (model X.prog X.w) X.A (exec st X.env) (SP X pins D) X.xe s
noncomputable def PSs (X:Cx) (st:List Stmt) (t:TS):Prop :=
 ∀ (pins:List (Addr×Obj)) (s:Shared) (σ:St) (H:Hp) (D:Ends),Inv X pins σ H s→t D σ H→wpAny (model X.prog X.w) X.A (execs st X.env) (SP X pins D) X.xe s
theorem thn {α:Type}{t:Sem α}{Q Q':α→Shared→Prop}{M:Model}{A:Around}{E:Value→Shared→Prop}{s:Shared}(h:wpAny M A t Q E s) (hQ:∀ a s,Q a s→Q' a s):wpAny M A t Q' E s:=wpAny_mono h hQ fun _ _ x=>x
end L2
namespace L2
open PySem PySem.Spec PyProof.Rows
section
variable {X:Cx}
noncomputable def tVar (i:Nat):TE:=fun σ H Q=>∃ v,σ[i]?=some (some v)∧Q v H
noncomputable def tC (v:V):TE:=fun _ H Q=>Q v H
theorem zqm_ {i:Nat}{x:Str}{pos:Pos}(hN:X.N[i]?=some x) (hv:Vis X.env.scope x) (hd:(x == ("__debug__" : Str))=false:=by decide) (hcd:(x == ("__classdict__" : Str))=false:=by decide):PE X (.Name x pos) (tVar i):=by
 intro pins s σ H Q I h
 obtain ⟨v,e,h⟩:=h
 obtain ⟨m,hn,hl⟩:=I.loc
 obtain ⟨u,r,l⟩:=hl i x v hN e hv
 have fin:EP X pins σ Q u s:=⟨v,H,I,r,h⟩
 rcases l with ⟨hk,hm⟩ | ⟨hk,c,hc,hcell⟩
 ·exact wpAny_Name (wpAny_loadName_local I.ok.kind hk hn hm fin) hd
 ·rcases hk with hk | hk
  ·exact wpAny_Name (wpAny_loadName_cell I.ok.kind hk hc hcell fin) hd
  ·exact wpAny_Name (wpAny_loadName_free I.ok.kind hk hc hcell fin hcd) hd
theorem zo_ {i j pos}:PE X (.Constant (.int i) j pos) (tC (.int i)):=fun _ _ _ H _ I h=>wpAny_Constant_int ⟨.int i,H,I.tok _,⟨_,rfl⟩,h⟩
theorem zkP_ {b j pos}:PE X (.Constant (.bool b) j pos) (tC (.bl b)):=fun _ _ _ H _ I h=>Constant_bool ⟨.bl b,H,I,rfl,h⟩
theorem znA_ {j pos}:PE X (.Constant .none j pos) (tC .non):=fun _ _ _ H _ I h=>Constant_none ⟨.non,H,I,rfl,h⟩
theorem zpU_ {x j pos}:PE X (.Constant (.str x) j pos) (tC (.str x)):=fun _ _ _ H _ I h=>Calls.Constant_str ⟨.str x,H,I.tok _,⟨_,rfl⟩,h⟩
noncomputable def Gl (X:Cx) (x:Str):Prop:=X.env.kindOf x=some .globalImplicit
theorem zjR_ {E:Value→Shared→Prop}{pins:List (Addr×Obj)}{s:Shared}{σ:St}{H:Hp}{x:Str}{u:Value}{pos:Pos}{Q:Value→Shared→Prop}(I:Inv X pins σ H s) (hg:Gl X x) (hm:X.mg x=some u) (h:Q u s)
  (hd:(x == ("__debug__" : Str))=false:=by decide):wpAny (model X.prog X.w) X.A (eval (.Name x pos) X.env) Q E s :=
 Calls.Name_function_global I.ok.kind hg (Calls.loadGlobal_global (by rw [I.ok.glob]; exact I.mod.glob.keeps I.bk) hm h) hd
theorem zgW_ {E:Value→Shared→Prop}{pins:List (Addr×Obj)}{s:Shared}{σ:St}{H:Hp}{x:Str}{u:Value}{pos:Pos}{Q:Value→Shared→Prop}(I:Inv X pins σ H s) (hg:Gl X x) (hm:X.mg x=none) (hv:bootBuiltins x=some u) (h:Q u s)
  (hn:x ≠ "__name__" := by decide) (hd:(x == ("__debug__" : Str))=false:=by decide):wpAny (model X.prog X.w) X.A (eval (.Name x pos) X.env) Q E s:=by
 obtain ⟨mb,h1,h2⟩:=I.mod.blt
 exact Calls.Name_function_global I.ok.kind hg (Calls.loadGlobal_builtin (by rw [I.ok.glob]; exact I.mod.glob.keeps I.bk) hm (by rw [I.ok.blt]; exact h1.keeps I.bk) ((h2 x hn).trans hv) h) hd
theorem zos_ {x:Str}{v:V}{u:Value}{pos:Pos}(hg:Gl X x) (hm:X.mg x=some u) (r:RelV v u) (hd:(x == ("__debug__" : Str))=false:=by decide):PE X (.Name x pos) (tC v) :=
 fun _ _ _ H _ I h=>zjR_ I hg hm ⟨v,H,I,r,h⟩ hd
theorem zoK_ {x:Str}{v:V}{u:Value}{pos:Pos}(hg:Gl X x) (hm:X.mg x=none) (hv:bootBuiltins x=some u) (r:RelV v u) (hn:x ≠ "__name__" := by decide) (hd:(x == ("__debug__" : Str))=false:=by decide):PE X (.Name x pos) (tC v) :=
 fun _ _ _ H _ I h=>zgW_ I hg hm hv ⟨v,H,I,r,h⟩ hn hd
variable {a b:Expr}{ta tb:TE}{pos:Pos}
noncomputable def PC (X:Cx) (op:CmpOp) (a b:Expr) (t:TE):Prop :=
 ∀ (pins:List (Addr×Obj)) (s:Shared) (σ:St) (H:Hp) (Q:VK),Inv X pins σ H s→t σ H Q →
  wpAny (model X.prog X.w) X.A (eval a X.env) (fun v s₁=>wpAny (model X.prog X.w) X.A (eval b X.env) (fun u s₂=>wpAny (model X.prog X.w) X.A (compareOp op v u) (EP X pins σ Q) X.xe s₂) X.xe s₁) X.xe s
theorem nobehind (b:Expr) {op:CmpOp}(h:op≠.In) (h2:op≠.NotIn):behindInMarks op b=false:=by
 have e1:(op == CmpOp.In)=false:=by cases op<;>first | rfl | exact absurd rfl h
 have e2:(op == CmpOp.NotIn)=false:=by cases op<;>first | rfl | exact absurd rfl h2
 cases b<;>simp [behindInMarks,e1,e2]
variable {tA tB':TT}{rest:List Expr}
noncomputable def tNot (t:TT):TT:=fun σ H Q=>t σ H fun c H1=>Q (!c) H1
theorem zqC_ (ha:PT X a tA):PW X (.BoolOp .Or [a] pos) tA:=by
 intro wh pins s σ H Q I h
 refine isTrue_or (thn (ha pins s σ H Q I h) fun c s1 e=>?_)
 cases c with
 | false=>exact isTrue_or_nil e
 | true=>exact e
theorem znv_ (ha:PT X a tA):PT X (.UnaryOp .Not a pos) (tNot tA):=by
 intro pins s σ H Q I h
 exact isTrue_not (ha pins s σ H (fun c H1=>Q (!c) H1) I h)
theorem zqt_ {op} {t:TE}(h:PE X a t):PE X (.BoolOp op [a] pos) t:=fun pins s σ H Q I hw=>BoolOp_one (h pins s σ H Q I hw)
end
end L2
namespace L2
open PySem PySem.Spec PyProof.Rows
noncomputable def SqL (K:PySem.W.Frag) (H:Hp) (a:Addr) (xs:List V):Prop :=
 Rd H a (.lst xs) ∨
  ∃ (o:Obj) (its:Array Value) (n:Nat),K.lookup a=some o∧o.cls=.type "list" ∧ o.dict=none∧o.data=.seq its n∧its.size≤sizeLine∧Vals xs its.toList
noncomputable def SqT (K:PySem.W.Frag) (H:Hp) (a:Addr) (xs:List V):Prop :=
 Rd H a (.tup xs) ∨
  ∃ (o:Obj) (its:Array Value) (n:Nat),K.lookup a=some o∧o.cls=.type "tuple" ∧ o.data=.seq its n∧its.size≤sizeLine∧Vals xs its.toList
noncomputable def absV:Value→Option V
 | .none=>some .non
 | .bool b=>some (.bl b)
 | .int i _=>some (.int i)
 | .str x _=>some (.str x)
 | .bytes b _=>some (.byt b)
 | .float b _=>some (.flt b)
 | .ref a=>some (.ref a)
 | .type n=>some (.ty n)
 | _=>none
theorem RelV.abs {x:V}{u:Value}(r:RelV x u):absV u=some x:=by
 cases x with
 | non=>cases r; rfl
 | bl _=>cases r; rfl
 | int _=>obtain ⟨t,rfl⟩:=r; rfl
 | str _=>obtain ⟨t,rfl⟩:=r; rfl
 | byt _=>obtain ⟨t,rfl⟩:=r; rfl
 | flt _=>obtain ⟨t,rfl⟩:=r; rfl
 | ref _=>cases r; rfl
 | ty _=>cases r; rfl
theorem RelV.inj {x y:V}{u:Value}(r:RelV x u) (q:RelV y u):x=y:=Option.some.inj (r.abs.symm.trans q.abs)
theorem Vals.inj:∀ {xs ys:List V}{us:List Value},Vals xs us→Vals ys us→xs=ys
 | _,_,_,.nil,.nil=>rfl
 | _,_,_,.cons r t,.cons r' t'=>by rw [r.inj r',Vals.inj t t']
section
variable {X:Cx}{pins:List (Addr×Obj)}{σ:St}{H:Hp}{s:Shared}{a:Addr}{xs ys:List V}
theorem SqL.of {K:PySem.W.Frag}(h:H a=some (.lst xs)):SqL K H a xs:=.inl (.inl h)
theorem SqT.of {K:PySem.W.Frag}(h:H a=some (.tup xs)):SqT K H a xs:=.inl (.inl h)
theorem Inv.list (I:Inv X pins σ H s) (h:SqL X.K H a xs):∃ its:List Value,Vals xs its∧PlainL s.heap a its.toArray∧xs.length≤sizeLine:=by
 rcases h with h | ⟨o,its,n,hk,hc,hd,hs,hz,r⟩
 ·obtain ⟨z,its,n,r,e⟩:=h.ok I.hok
  exact ⟨its,r,⟨_,n,e,rfl,rfl,rfl⟩,z⟩
 ·refine ⟨its.toList,r,⟨o,n,I.kIn a o hk,hc,hd,by simpa using hs⟩,?_⟩
  have e:=r.length
  simp only [Array.length_toList] at e
  omega
theorem Inv.tuple (I:Inv X pins σ H s) (h:SqT X.K H a xs):∃ its:List Value,Vals xs its∧IsTup s.heap a its.toArray∧xs.length≤sizeLine:=by
 rcases h with h | ⟨o,its,n,hk,hc,hs,hz,r⟩
 ·obtain ⟨z,its,r,p⟩:=h.ok I.hok
  exact ⟨its,r,p,z⟩
 ·refine ⟨its.toList,r,⟨o,I.kIn a o hk,hc,n,by simpa using hs⟩,?_⟩
  have e:=r.length
  simp only [Array.length_toList] at e
  omega
theorem Inv.list_inj (I:Inv X pins σ H s) (h:SqL X.K H a xs) (h':SqL X.K H a ys):xs=ys:=by
 obtain ⟨its,r,⟨o,n,e,_,_,d⟩,_⟩:=I.list h
 obtain ⟨its',r',⟨o',n',e',_,_,d'⟩,_⟩:=I.list h'
 rw [e] at e'; cases e'
 rw [d] at d'
 injection d' with d1 _
 have:its=its':=by simpa using congrArg Array.toList d1
 subst this
 exact r.inj r'
theorem Inv.tuple_inj (I:Inv X pins σ H s) (h:SqT X.K H a xs) (h':SqT X.K H a ys):xs=ys:=by
 obtain ⟨its,r,⟨o,e,_,n,d⟩,_⟩:=I.tuple h
 obtain ⟨its',r',⟨o',e',_,n',d'⟩,_⟩:=I.tuple h'
 rw [e] at e'; cases e'
 rw [d] at d'
 injection d' with d1 _
 have:its=its':=by simpa using congrArg Array.toList d1
 subst this
 exact r.inj r'
end
noncomputable abbrev Cx.wish (X:Cx) (E:Value→Shared→Prop):Cx:={ X with xe:=E }
noncomputable abbrev Cx.nox (X:Cx):Cx:=X.wish fun _ _=>False
theorem Cx.Ok.wish {X:Cx}(ok:X.Ok) (E:Value→Shared→Prop):(X.wish E).Ok :=
 ⟨ok.mod,ok.kind,ok.glob,ok.blt,ok.above,ok.inj,ok.has,ok.cab,ok.hd,ok.frames,ok.stk,ok.exf,ok.bs,ok.bsz,ok.noex,ok.exfs,ok.funs,ok.frf⟩
theorem Cx.Ok.unwish {X:Cx}{E:Value→Shared→Prop}(ok:(X.wish E).Ok):X.Ok :=
 ⟨ok.mod,ok.kind,ok.glob,ok.blt,ok.above,ok.inj,ok.has,ok.cab,ok.hd,ok.frames,ok.stk,ok.exf,ok.bs,ok.bsz,ok.noex,ok.exfs,ok.funs,ok.frf⟩
section
variable {X:Cx}{pins:List (Addr×Obj)}{σ:St}{H:Hp}{s:Shared}{E:Value→Shared→Prop}
theorem Inv.wish (I:Inv X pins σ H s) (E:Value→Shared→Prop):Inv (X.wish E) pins σ H s:=⟨I.ok.wish E,I.os,I.bare,I.base,I.loc,I.cell,I.free,I.freeC,I.pin,I.hok,I.len⟩
theorem Inv.unwish (I:Inv (X.wish E) pins σ H s):Inv X pins σ H s:=⟨I.ok.unwish,I.os,I.bare,I.base,I.loc,I.cell,I.free,I.freeC,I.pin,I.hok,I.len⟩
theorem SP.unwish {D:Ends}{f:Flow}{s':Shared}(h:SP (X.wish E) pins D f s'):SP X pins D f s':=by
 cases f with
 | next=>obtain ⟨σ',H',I,q⟩:=h; exact ⟨σ',H',I.unwish,q⟩
 | brk=>obtain ⟨σ',H',I,q⟩:=h; exact ⟨σ',H',I.unwish,q⟩
 | cont=>obtain ⟨σ',H',I,q⟩:=h; exact ⟨σ',H',I.unwish,q⟩
 | ret u=>obtain ⟨v,σ',H',I,r,q⟩:=h; exact ⟨v,σ',H',I.unwish,r,q⟩
theorem PSs.nox {st:List Stmt}{t:TS}(h:PSs X.nox st t):PSs X st t:=fun pins s σ H D I hw =>
 wpAny_mono (h pins s σ H D (I.wish _) hw) (fun _ _ q=>q.unwish) fun _ _ z=>False.elim z
end
section
variable {X:Cx}{st:Stmt}{rest:List Stmt}{t u:TS}{e:Expr}{te:TE}{pos:Pos}
noncomputable def tNext:TS:=fun D σ H=>D.nx σ H
noncomputable def tSeq (t u:TS):TS:=fun D σ H=>t { D with nx:=u D } σ H
theorem zcg_:PSs X [] tNext:=fun _ _ σ H _ I h=>wpAny_execs_nil ⟨σ,H,I,h⟩
theorem ze_ (h1:PS X st t) (h2:PSs X rest u):PSs X (st::rest) (tSeq t u):=by
 intro pins s σ H D I h
 refine wpAny_execs_cons (thn (h1 pins s σ H { D with nx:=u D } I h) fun f s1 q=>?_)
 cases f with
 | next =>
  obtain ⟨σ',H',I',q⟩:=q
  exact h2 pins s1 σ' H' D I' q
 | ret v=>exact q
 | brk=>exact q
 | cont=>exact q
theorem zp_ (h1:PS X st t):PSs X [st] t:=by
 intro pins s σ H D I h
 refine wpAny_execs_cons (thn (h1 pins s σ H D I h) fun f s1 q=>?_)
 cases f with
 | next=>exact wpAny_execs_nil q
 | ret v=>exact q
 | brk=>exact q
 | cont=>exact q
theorem Inv.quiet {pins:List (Addr×Obj)}{σ:St}{H:Hp}{s:Shared}(I:Inv X pins σ H s):interactive X.env=false:=by simp [interactive,I.ok.kind]
noncomputable def tDrop (te:TE):TS:=fun D σ H=>te σ H fun _ H1=>D.nx σ H1
theorem zb5_ (he:PE X e te) (hs:swapsWith e none pos.line X.env=pure false:=by rfl):PS X (.Expr e pos) (tDrop te):=by
 intro pins s σ H D I h
 exact wpAny_Expr_any (thn (he pins s σ H _ I h) fun v s1 ⟨x,H1,I1,r1,q1⟩=>⟨σ,H1,I1,q1⟩) I.quiet hs
noncomputable def tRet (te:TE):TS:=fun D σ H=>te σ H D.rt
theorem zaS_ (he:PE X e te):PS X (.Return (some e) pos) (tRet te):=by
 intro pins s σ H D I h
 exact wpAny_Return_some (thn (he pins s σ H _ I h) fun v s1 ⟨x,H1,I1,r1,q1⟩=>⟨x,σ,H1,I1,r1,q1⟩)
end
noncomputable abbrev TG:=V→St→Hp→(St→Hp→Prop)→Prop
noncomputable abbrev TGs:=List V→St→Hp→(St→Hp→Prop)→Prop
noncomputable def PG (X:Cx) (target:Expr) (t:TG):Prop :=
 ∀ (pins:List (Addr×Obj)) (s:Shared) (σ:St) (H:Hp) (v:V) (u:Value) (Q:St→Hp→Prop),Inv X pins σ H s→RelV v u→t v σ H Q →
  wpAny (model X.prog X.w) X.A (assign target X.env u) (fun _ s'=>∃ σ' H',Inv X pins σ' H' s'∧Q σ' H') X.xe s
noncomputable def PGs (X:Cx) (ts:List Expr) (t:TGs):Prop :=
 ∀ (pins:List (Addr×Obj)) (s:Shared) (σ:St) (H:Hp) (vs:List V) (us:List Value) (Q:St→Hp→Prop),Inv X pins σ H s→Vals vs us→t vs σ H Q →
  wpAny (model X.prog X.w) X.A (assignInOrder ((assignEach ts X.env).map (·.2)) us) (fun _ s'=>∃ σ' H',Inv X pins σ' H' s'∧Q σ' H') X.xe s
noncomputable abbrev TSet:=V→V→V→Hp→(Hp→Prop)→Prop
noncomputable def PSet (X:Cx) (t:TSet):Prop :=
 ∀ (pins:List (Addr×Obj)) (s:Shared) (σ:St) (H:Hp) (o i v:V) (ov iv u:Value) (Q:Hp→Prop),Inv X pins σ H s→RelV o ov→RelV i iv→RelV v u→t o i v H Q →
  wpAny (model X.prog X.w) X.A (setItem ov iv u) (fun _ s'=>∃ H',Inv X pins σ H' s'∧Q H') X.xe s
section
variable {X:Cx}{pos:Pos}
noncomputable def gName (i:Nat):TG:=fun v σ H Q=>Q (σ.set i (some v)) H
theorem zW_ {i:Nat}{x:Str}(hN:X.N.Nodup) (hi:X.N[i]?=some x) (hx:Loc X.env.scope x) (hf:X.fn x=true∨X.env.scope.names.lookup x=some .local:=by first | exact .inl rfl | exact .inr rfl | assumption):PG X (.Name x pos) (gName i):=by
 intro pins s σ H v u Q I r h
 exact wpAny_assign_Name (zi9_ I hN hi hx r (fun s' I'=>⟨_,H,I',h⟩) hf)
noncomputable def gNil:TGs:=fun vs σ H Q=>vs=[]∧Q σ H
noncomputable def gCons (t:TG) (u:TGs):TGs:=fun vs σ H Q=>∃ v r,vs=v::r∧t v σ H fun σ' H'=>u r σ' H' Q
theorem zof_:PGs X [] gNil:=by
 intro pins s σ H vs us Q I r h
 obtain ⟨e,h⟩:=h
 subst e
 cases r
 exact assignInOrder_nil ⟨σ,H,I,h⟩
theorem znB_ {e:Expr}{es:List Expr}{t:TG}{u:TGs}(h1:PG X e t) (h2:PGs X es u)
  (hs:(assignEach (e::es) X.env).map (·.2)=assign e X.env::(assignEach es X.env).map (·.2):=by rfl):PGs X (e::es) (gCons t u):=by
 intro pins s σ H vs us Q I r h
 obtain ⟨v,vr,e1,h⟩:=h
 subst e1
 cases r with
 | cons r rr =>
  rw [hs]
  refine assignInOrder_cons (thn (h1 pins s σ H _ _ _ I r h) fun _ s1 ⟨σ1,H1,I1,q1⟩=>?_)
  exact h2 pins s1 σ1 H1 _ _ Q I1 rr q1
noncomputable def gTup (K:PySem.W.Frag) (n:Nat) (t:TGs):TG:=fun v σ H Q=>∃ a xs,v=.ref a∧SqT K H a xs∧xs.length=n∧t xs σ H Q
theorem zqc_ {es:List Expr}{k:Nat}{t:TGs}{n:Nat}(hc:X.calm=true) (h:PGs X es t)
  (hn:(assignEach es X.env).length=n:=by rfl) (hst:(assignEach es X.env).findIdx? (·.1)=none:=by rfl):PG X (.Tuple es k pos) (gTup X.K n t):=by
 intro pins s σ H v u Q I r hw
 obtain ⟨a,xs,e1,hq,hl,hw⟩:=hw
 subst e1
 cases r
 obtain ⟨its,rv,ht,hz⟩:=I.tuple hq
 refine assign_Tuple_tuple (I.ok.hd hc) ht (by simp [hn,← hl,rv.length]) hst fun h' hx=>?_
 have I1:Inv X pins σ H { s with heap:=h' }:=I.kept (t':=s.toks) fun b o e=>hx b o (Nat.ne_of_lt (Heap.lt_size e)) e
 exact h pins _ σ H xs _ Q I1 (by simpa using rv) hw
noncomputable def gSub (to ti:TE) (t:TSet):TG:=fun v σ H Q=>to σ H fun o H1=>ti σ H1 fun i H2=>t o i v H2 fun H3=>Q σ H3
theorem zp1_ {o i:Expr}{to ti:TE}{t:TSet}(ho:PE X o to) (hi:PE X i ti) (hs:PSet X t)
  (ha:∀ v,assign (.Subscript o i pos) X.env v=(do
   let ov ← holding [v] (eval o X.env)
   let iv ← holding [v,ov] (eval i X.env)
   standAt pos
   holding [v,ov,iv] (setItem ov iv v)
   release [v,ov,iv] []):=by intro _; rfl):PG X (.Subscript o i pos) (gSub to ti t):=by
 intro pins s σ H v u Q I r h
 rw [ha]
 refine wpAny_bind (wpAny_holding (thn (ho pins s σ H _ I h) fun ov s1 ⟨x,H1,I1,r1,q1⟩=>?_))
 refine wpAny_bind (wpAny_holding (thn (hi pins s1 σ H1 _ I1 q1) fun iv s2 ⟨y,H2,I2,r2,q2⟩=>?_))
 refine wpAny_bind (wpAny_standAt (wpAny_bind (wpAny_holding (thn (hs pins s2 σ H2 x y v ov iv u _ I2 r1 r2 r q2) fun _ s3 ⟨H3,I3,q3⟩=>?_))))
 exact wpAny_release ⟨σ,H3,I3,q3⟩
noncomputable def tAsg (te:TE) (g:TG):TS:=fun D σ H=>te σ H fun x H1=>g x σ H1 D.nx
theorem zpu_ {tg e:Expr}{te:TE}{g:TG}(he:PE X e te) (hg:PG X tg g) (hs:swapsWithSole [tg] e pos.line X.env=pure false:=by rfl) (hw:swappedStores [tg] e X.env=pure none:=by rfl)
  (h1:(assignEach [tg] X.env).map (·.2)=[assign tg X.env]:=by rfl):PS X (.Assign [tg] e pos) (tAsg te g):=by
 intro pins s σ H D I h
 refine wpAny_Assign_stores (thn (he pins s σ H _ I h) fun v s1 ⟨x,H1,I1,r1,q1⟩=>?_) hs hw
 rw [h1]
 exact thn (hg pins s1 σ H1 x v _ I1 r1 q1) fun _ s2 q=>q
theorem zag_ {i:Nat}{x:Str}{e:Expr}{te:TE}{pos':Pos}(hN:X.N.Nodup) (hi:X.N[i]?=some x) (hx:Loc X.env.scope x) (he:PE X e te) (hs:swapsWith e (some (.Name x pos')) pos.line X.env=pure false:=by rfl) (hf:X.fn x=true∨X.env.scope.names.lookup x=some .local:=by first | exact .inl rfl | exact .inr rfl | assumption) :
  PS X (.Assign [.Name x pos'] e pos) (tAsg te (gName i)):=by
 intro pins s σ H D I h
 refine wpAny_Assign_Name (thn (he pins s σ H _ I h) fun v s1 ⟨y,H1,I1,r1,q1⟩=>?_) hs
 exact zi9_ I1 hN hi hx r1 (fun s2 I2=>⟨_,H1,I2,q1⟩) hf
end
section
variable {X:Cx}{pos:Pos}
end
structure It where
 go:Nat→Hp→Prop
 yld:Nat→Hp→V→Hp→Prop
 stop:Nat→Hp→Prop
noncomputable def FpOk (X:Cx) (pins:List (Addr×Obj)) (H:Hp) (b:Addr):Prop :=
 H b=none∧b≠X.env.locals∧b∉X.fs∧(b∈X.ex∨X.s₀.heap.objs.size≤b)∧(∀ x c,X.env.cells.lookup x=some c→c≠b)∧∀ p∈X.pn++pins,p.1≠b
theorem Inv.fpOk {X:Cx}{pins:List (Addr×Obj)}{σ:St}{H H':Hp}{s:Shared}{b:Addr}(I:Inv X pins σ H s) (hb:s.heap.objs.size≤b) (hn:H' b=none):FpOk X pins H' b:=by
 refine ⟨hn,Nat.ne_of_gt (Nat.lt_of_lt_of_le I.lt hb),I.nofs hb,.inr (Nat.le_trans I.sz hb),fun x c e z=>?_,fun p hp z=>?_⟩
 ·obtain ⟨v,q⟩:=I.cell x c e
  exact absurd (Nat.lt_of_lt_of_le q.lt (by rw [z]; exact hb)) (Nat.lt_irrefl _)
 ·exact absurd (Nat.lt_of_lt_of_le (Heap.lt_size (I.pin p hp).1) (by rw [z]; exact hb)) (Nat.lt_irrefl _)
structure Turn (P:Program) (w:World) (K:PySem.W.Frag) (tg:Expr) (J:It) (fp:List Addr) (it:Addr) (tn:Nat→Heap→Prop):Prop where
 mem:it∈fp
 obj:∀ i h,tn i h→∀ b∈fp,∃ o,h.get? b=some o∧∀ v,o.data≠.cell v
 keep:∀ i h h',tn i h→(∀ b∈fp,∀ o,h.get? b=some o→h'.get? b=some o)→tn i h'
 item:∀ (X:Cx),X.prog=P→X.w=w→X.K=K→X.calm=true→∀ (i:Nat) (pins:List (Addr×Obj)) (s:Shared) (σ:St) (H:Hp) (E:Value→Shared→Prop),Inv X pins σ H s→(∀ b∈fp,FpOk X pins H b)→tn i s.heap→J.go i H →
  wpAny (model P w) X.A (pyNext (.ref it)) (fun r s1=>∃ u,r=some u ∧
   wpAny (model P w) X.A (letOwnedTupleGo tg (.ref it) u) (fun _ s2=>∃ x H',Inv X pins σ H' s2∧RelV x u∧J.yld i H x H'∧tn (i+1) s2.heap∧∀ b∈fp,H' b=none) E s1) E s
 done:∀ (X:Cx),X.prog=P→X.w=w→X.K=K→X.calm=true→∀ (i:Nat) (pins:List (Addr×Obj)) (s:Shared) (σ:St) (H:Hp) (E:Value→Shared→Prop),Inv X pins σ H s→(∀ b∈fp,FpOk X pins H b)→tn i s.heap→J.stop i H →
  wpAny (model P w) X.A (pyNext (.ref it)) (fun r s1=>r=none∧Inv X pins σ H s1) E s
 self:∀ (A:Around) (i:Nat) (s:Shared) (Q:Value→Shared→Prop) (E:Value→Shared→Prop),tn i s.heap→Q (.ref it) s→wpAny (model P w) A (pyIter (.ref it)) Q E s
noncomputable abbrev TI:=St→Hp→(It→Hp→Prop)→Prop
noncomputable def PIE (X:Cx) (pins:List (Addr×Obj)) (σ:St) (tg:Expr) (R:It→Hp→Prop) (itv:Value) (s2:Shared):Prop :=
 ∃ (it:Addr) (fp:List Addr) (tn:Nat→Heap→Prop) (J:It) (H':Hp),itv=.ref it∧Inv X pins σ H' s2∧Turn X.prog X.w X.K tg J fp it tn∧tn 0 s2.heap∧(∀ b∈fp,FpOk X pins H' b)∧R J H'
noncomputable def PI (X:Cx) (tg iter:Expr) (wi:TI):Prop :=
 ∀ (pins:List (Addr×Obj)) (s:Shared) (σ:St) (H:Hp) (R:It→Hp→Prop),Inv X pins σ H s→wi σ H R →
  wpAny (model X.prog X.w) X.A (eval iter X.env) (fun v s1=>wpAny (model X.prog X.w) X.A (pyIter v) (PIE X pins σ tg R) X.xe s1) X.xe s
theorem zpi_ {M:Model}{A:Around}{E:Value→Shared→Prop}{s:Shared}{tg:Expr}{it:Addr}{u:Value}{o:Obj}{n:String}{vs:Array Value}{Q:Unit→Shared→Prop}(ho:s.heap.get? it=some o) (hc:o.cls=.type n) (hd:o.data=.fields vs)
  (hn:["enumerate", "zip", "dict_itemiterator", "dict_reverseitemiterator", "odict_iterator", "itertools.zip_longest", "itertools.pairwise"].contains n=false) (hQ:Q () s):wpAny M A (letOwnedTupleGo tg (.ref it) u) Q E s:=by
 unfold letOwnedTupleGo
 cases tg<;>first
  | exact wpAny_pure hQ
  | (cases u<;>first
    | exact wpAny_pure hQ
    | (refine wpAny_bind (wpAny_load ho ?_)
       rw [hc,hd]
       show wpAny M A (if (["enumerate", "zip", "dict_itemiterator", "dict_reverseitemiterator", "odict_iterator", "itertools.zip_longest", "itertools.pairwise"].contains n && vs[0]? == some (rawInt _))=true then _ else _) Q E s
       rw [if_neg (by intro h; rw [hn,Bool.false_and] at h; cases h)]
       exact wpAny_pure hQ))
noncomputable def Itl (K:PySem.W.Frag) (a:Addr):It :=
 ⟨fun i H=>∃ xs x,SqL K H a xs∧xs[i]?=some x,fun i H x H'=>H'=H∧∀ xs,SqL K H a xs→xs[i]?=some x,fun i H=>∃ xs,SqL K H a xs∧xs.length≤i⟩
noncomputable def Itt (K:PySem.W.Frag) (a:Addr):It :=
 ⟨fun i H=>∃ xs x,SqT K H a xs∧xs[i]?=some x,fun i H x H'=>H'=H∧∀ xs,SqT K H a xs→xs[i]?=some x,fun i H=>∃ xs,SqT K H a xs∧xs.length≤i⟩
noncomputable def Itr (lo:Int) (n:Nat):It:=⟨fun i _=>i<n,fun i H x H'=>H'=H∧x=.int (lo+i),fun i _=>n≤i⟩
theorem zlI_ {P:Program}{w:World}{K:PySem.W.Frag}{tg:Expr}(a it:Addr):Turn P w K tg (Itl K a) [it] it (fun i h=>h.IsListIter it a i) where
 mem:=by simp
 obj:=fun i h st b hb=>by
  have e:b=it:=by simpa using hb
  subst e
  obtain ⟨o,e,c,d⟩:=st
  exact ⟨o,e,fun v z=>by rw [d] at z; cases z⟩
 keep:=fun i h h' st k=>st.at fun o e=>k it (by simp) o e
 item:=by
  intro X hP hw hK hc i pins s σ H E I hf st hg
  subst hP hw hK
  obtain ⟨xs,x,hq,hx⟩:=hg
  obtain ⟨its,rv,p,hz⟩:=I.list hq
  obtain ⟨u,hu,ru⟩:=rv.get hx
  obtain ⟨f0,f1,f2,f3,f4,f5⟩:=hf it (by simp)
  refine wpAny_pyNext_list_item st p.isList (x:=u) (by simpa using hu) fun h' st' sb=>?_
  have I1:Inv X pins σ H { s with heap:=h' }:=I.turned (t':=s.toks) (fun b o hb e=>(sb.2 b hb).trans e) f0 f1 f3 f4 f5
  obtain ⟨o,e,c,d⟩:=id st'
  exact ⟨u,rfl,zpi_ (s:={ s with heap:=h' }) e c d (by decide) ⟨x,H,I1,ru,⟨rfl,fun ys hy=>by rw [I.list_inj hy hq]; exact hx⟩,st',fun b hb=>(hf b hb).1⟩⟩
 done:=by
  intro X hP hw hK hc i pins s σ H E I hf st hg
  subst hP hw hK
  obtain ⟨xs,hq,hx⟩:=hg
  obtain ⟨its,rv,p,hz⟩:=I.list hq
  obtain ⟨f0,f1,f2,f3,f4,f5⟩:=hf it (by simp)
  have hl:=rv.length
  exact wpAny_pyNext_list_end (I.ok.hd hc) st p.isList (by simp; omega) fun h' eb=>⟨rfl,I.turned (t':=s.toks) (fun b o hb e=>eb b o hb e) f0 f1 f3 f4 f5⟩
 self:=fun _ _ _ _ _ st h=>wpAny_pyIter_listiter st h
theorem zkB_ {P:Program}{w:World}{K:PySem.W.Frag}{tg:Expr}(a it:Addr):Turn P w K tg (Itt K a) [it] it (fun i h=>h.IsTupleIter it a i) where
 mem:=by simp
 obj:=fun i h st b hb=>by
  have e:b=it:=by simpa using hb
  subst e
  obtain ⟨o,e,c,d⟩:=st
  exact ⟨o,e,fun v z=>by rw [d] at z; cases z⟩
 keep:=fun i h h' st k=>st.at fun o e=>k it (by simp) o e
 item:=by
  intro X hP hw hK hc i pins s σ H E I hf st hg
  subst hP hw hK
  obtain ⟨xs,x,hq,hx⟩:=hg
  obtain ⟨its,rv,p,hz⟩:=I.tuple hq
  obtain ⟨u,hu,ru⟩:=rv.get hx
  obtain ⟨f0,f1,f2,f3,f4,f5⟩:=hf it (by simp)
  refine wpAny_pyNext_tuple_item st (show s.heap.IsTuple a its.toArray from p) (x:=u) (by simpa using hu) fun h' st' sb=>?_
  have I1:Inv X pins σ H { s with heap:=h' }:=I.turned (t':=s.toks) (fun b o hb e=>(sb.2 b hb).trans e) f0 f1 f3 f4 f5
  obtain ⟨o,e,c,d⟩:=id st'
  exact ⟨u,rfl,zpi_ (s:={ s with heap:=h' }) e c d (by decide) ⟨x,H,I1,ru,⟨rfl,fun ys hy=>by rw [I.tuple_inj hy hq]; exact hx⟩,st',fun b hb=>(hf b hb).1⟩⟩
 done:=by
  intro X hP hw hK hc i pins s σ H E I hf st hg
  subst hP hw hK
  obtain ⟨xs,hq,hx⟩:=hg
  obtain ⟨its,rv,p,hz⟩:=I.tuple hq
  obtain ⟨f0,f1,f2,f3,f4,f5⟩:=hf it (by simp)
  have hl:=rv.length
  exact wpAny_pyNext_tuple_end (I.ok.hd hc) st (show s.heap.IsTuple a its.toArray from p) (by simp; omega) fun h' eb=>⟨rfl,I.turned (t':=s.toks) (fun b o hb e=>eb b o hb e) f0 f1 f3 f4 f5⟩
 self:=fun _ _ _ _ _ st h=>wpAny_pyIter_tupleiter st h
theorem zjI_ {P:Program}{w:World}{K:PySem.W.Frag}{tg:Expr}(it:Addr) (lo:Int) (n:Nat):Turn P w K tg (Itr lo n) [it] it (fun i h=>IsRangeIter h it (lo+(i:Nat)*1) ((n:Int)-(i:Nat)) 1) where
 mem:=by simp
 obj:=fun i h st b hb=>by
  have e:b=it:=by simpa using hb
  subst e
  exact ⟨_,st,fun v z=>by
   have z':Data.fields _=Data.cell v:=z
   cases z'⟩
 keep:=fun i h h' st k=>k it (by simp) _ st
 item:=by
  intro X hP hw hK hc i pins s σ H E I hf st hg
  subst hP hw hK
  obtain ⟨f0,f1,f2,f3,f4,f5⟩:=hf it (by simp)
  have W:=Walks.range (prog:=X.prog) (w:=X.w) (I.ok.hd hc) it lo 1 n
  refine W.item i s _ _ hg st fun v h' tk hv st' kk=>?_
  obtain ⟨t,rfl⟩:=hv
  have I1:Inv X pins σ H { s with heap:=h',toks:=tk }:=I.turned (fun b o hb e=>kk b o (by simpa using hb) e) f0 f1 f3 f4 f5
  refine ⟨_,rfl,zpi_ (s:={ s with heap:=h',toks:=tk }) (n := "range_iterator") st' rfl rfl (by decide) ⟨.int (lo+i),H,I1,⟨t,?_⟩,⟨rfl,rfl⟩,st',fun b hb=>(hf b hb).1⟩⟩
  rw [Int.mul_one]
 done:=by
  intro X hP hw hK hc i pins s σ H E I hf st hg
  subst hP hw hK
  obtain ⟨f0,f1,f2,f3,f4,f5⟩:=hf it (by simp)
  exact wpAny_pyNext_range_end (I.ok.hd hc) st (by have:n≤i:=hg; omega) fun h' eb=>⟨rfl,I.turned (t':=s.toks) (fun b o hb e=>eb b o hb e) f0 f1 f3 f4 f5⟩
 self:=fun _ _ _ _ _ st h=>wpAny_pyIter_rangeiter st h
end L2
namespace L2
open PySem PySem.Spec PyProof.Rows
section
variable {X:Cx}{tg:Expr}
theorem zjG_ {pins:List (Addr×Obj)}{σ:St}{H:Hp}{s:Shared}{R:It→Hp→Prop}{E:Value→Shared→Prop}{lo hi:Int}{t u v:Tok}{tk:Nat}(I:Inv X pins σ H s) (h1 : -(2 ^ 62)≤lo) (h2:lo<2 ^ 62) (h3 : -(2 ^ 62)≤hi) (h4:hi<2 ^ 62)
  (q:R (Itr lo (hi-lo).toNat) H):wpAny (model X.prog X.w) X.A (pyIter (.ref s.heap.objs.size)) (PIE X pins σ tg R) E { s with heap:=s.heap.push { cls:=.type "range",data:=.fields #[.int lo t,.int hi u,.int 1 v] },toks:=tk }:=by
 refine wpAny_pyIter_range (IsRange.new ..) (small_one h1 h2 h3 h4) ?_
 have I1:Inv X pins σ H { s with heap:=s.heap.push { cls:=.type "range",data:=.fields #[.int lo t,.int hi u,.int 1 v] },toks:=tk }:=I.kept fun b o e=>Heap.get?_push_of_some _ e
 refine ⟨(s.heap.push { cls:=.type "range",data:=.fields #[.int lo t,.int hi u,.int 1 v] }).objs.size,[(s.heap.push { cls:=.type "range",data:=.fields #[.int lo t,.int hi u,.int 1 v] }).objs.size],_,_,H,rfl,
  I1.kept (t':=tk) fun b o e=>Heap.get?_push_of_some _ e,zjI_ _ lo (hi-lo).toNat,?_,fun b hb=>?_,q⟩
 ·have e1:lo+((0:Nat):Int)*1=lo:=by simp
  have e2:(((hi-lo).toNat:Nat):Int)-((0:Nat):Int)=Builtin.Range.rangeSize lo hi 1:=by rw [rangeSize_one]; split<;>omega
  show IsRangeIter _ _ (lo+((0:Nat):Int)*1) ((((hi-lo).toNat:Nat):Int)-((0:Nat):Int)) 1
  rw [e1,e2]
  exact Heap.get?_push_size _ rfl
 ·have e:b=(s.heap.push { cls:=.type "range",data:=.fields #[.int lo t,.int hi u,.int 1 v] }).objs.size:=by simpa using hb
  subst e
  exact I1.fpOk (Nat.le_refl _) (I1.hok.fresh (Nat.le_refl _))
noncomputable def tFor (wi:TI) (g:TG) (tb:TS):TS:=fun D σ H=>wi σ H fun J H1=>∃ W:Nat→Nat→St→Hp→Prop,(∃ m,W 0 m σ H1)∧∀ i m σ H,W i m σ H →
 (J.stop i H∧D.nx σ H)∨(J.go i H∧∃ N:St→Hp→Prop,(∀ σ' H',N σ' H'→∃ m',m'<m∧W (i+1) m' σ' H')∧∀ x H',J.yld i H x H'→g x σ H' fun σ2 H2=>tb { D with nx:=N,ct:=N,bk:=D.nx } σ2 H2)
noncomputable def pinsAt (fp:List Addr) (h:Heap):List (Addr×Obj):=fp.filterMap fun b=>(h.get? b).map fun o=>(b,o)
theorem zed_ {fp:List Addr}{h:Heap}{b:Addr}{o:Obj}(hb:b∈fp) (e:h.get? b=some o):(b,o)∈pinsAt fp h:=List.mem_filterMap.mpr ⟨b,hb,by rw [e]; rfl⟩
theorem zk3_ {fp:List Addr}{h:Heap}{p:Addr×Obj}(hp:p∈pinsAt fp h):p.1∈fp∧h.get? p.1=some p.2:=by
 obtain ⟨b,hb,e⟩:=List.mem_filterMap.mp hp
 cases q:h.get? b with
 | none=>rw [q] at e; cases e
 | some o =>
  rw [q] at e
  have e':(b,o)=p:=Option.some.inj e
  subst e'
  exact ⟨hb,q⟩
theorem Inv.pinned {pins:List (Addr×Obj)}{σ:St}{H:Hp}{s:Shared}{fp:List Addr}(I:Inv X pins σ H s) (hf:∀ b∈fp,FpOk X pins H b) (ho:∀ b∈fp,∃ o,s.heap.get? b=some o∧∀ v,o.data≠.cell v):Inv X (pins++pinsAt fp s.heap) σ H s :=
 I.pins_of fun p hp=>(List.mem_append.mp hp).elim (fun z=>I.pin p (List.mem_append_right _ z)) fun z=>by
  obtain ⟨hb,e⟩:=zk3_ z
  obtain ⟨f0,f1,f2,_⟩:=hf p.1 hb
  obtain ⟨o,e',d⟩:=ho p.1 hb
  rw [e] at e'; cases e'
  exact ⟨e,f0,f1,f2,d⟩
theorem Inv.unpinned {pins pl:List (Addr×Obj)}{σ:St}{H:Hp}{s:Shared}(I:Inv X (pins++pl) σ H s):Inv X pins σ H s:=I.pins_of fun p hp=>I.pin p (List.mem_append_right _ (List.mem_append_left _ hp))
theorem zc1_ {iter:Expr}{body:List Stmt}{wi:TI}{g:TG}{tb:TS}{pos:Pos}(hp:PassesOwn (model X.prog X.w) X.A X.env X.xe) (hc:X.calm=true) (hi:PI X tg iter wi) (hg:PG X tg g) (hb:PSs X body tb)
  (hs:∀ x,foldedSetIterable iter X.env x=pure x:=by intro _; rfl):PS X (.For tg iter body [] pos) (tFor wi g tb):=by
 intro pins s σ H D I h
 refine wpAny_For (thn (hi pins s σ H _ I h) fun v s1 h1=>thn h1 fun itv s2 h2=>?_) hs
 obtain ⟨it,fp,tn,J,H2,e,I2,T,st2,f2,W,⟨m0,w0⟩,turn⟩:=h2
 subst e
 have stat:∀ {H':Hp},(∀ b∈fp,H' b=none)→∀ b∈fp,FpOk X pins H' b:=fun hn b hb=>⟨hn b hb,(f2 b hb).2⟩
 refine codeAny_forLoop_any (fun n s'=>∃ i σ' H',Inv X pins σ' H' s'∧tn i s'.heap∧(∀ b∈fp,H' b=none)∧W i n σ' H') ?_ m0 ⟨0,σ,H2,I2,st2,fun b hb=>(f2 b hb).1,w0⟩
 rintro n s3 ⟨i,σ3,H3,I3,st3,fr3,w3⟩
 rcases turn i n σ3 H3 w3 with ⟨stop,qn⟩ | ⟨go,N,hN,step⟩
 ·refine wpAny_passesOwn hp (thn (T.done X rfl rfl rfl hc i pins s3 σ3 H3 X.xe I3 (stat fr3) st3 stop) fun r s4 ⟨hr,I4⟩=>?_)
  subst hr
  exact wpAny_execs_nil ⟨σ3,H3,I4,qn⟩
 ·refine wpAny_passesOwn hp (thn (T.item X rfl rfl rfl hc i pins s3 σ3 H3 X.xe I3 (stat fr3) st3 go) fun r s4 ⟨u,hr,h4⟩=>?_)
  subst hr
  refine wpAny_passesOwn hp (thn h4 fun _ s5 ⟨x,H5,I5,r5,y5,st5,fr5⟩=>?_)
  have I5':=I5.pinned (stat fr5) (T.obj _ _ st5)
  refine wpAny_passesOwn hp (thn (hg _ s5 σ3 H5 x u _ I5' r5 (step x H5 y5)) fun _ s6 ⟨σ6,H6,I6,q6⟩=>?_)
  refine wpAny_passesOwn hp (thn (hb _ s6 σ6 H6 _ I6 q6) fun f s7 q7=>?_)
  have again:∀ {σ7:St}{H7:Hp},Inv X (pins++pinsAt fp s5.heap) σ7 H7 s7→N σ7 H7→∃ m,m<n∧∃ i σ' H',Inv X pins σ' H' s7∧tn i s7.heap∧(∀ b∈fp,H' b=none)∧W i m σ' H':=fun {σ7 H7} I7 n7=>by
   obtain ⟨m',hm,w7⟩:=hN σ7 H7 n7
   refine ⟨m',hm,i+1,σ7,H7,I7.unpinned,T.keep _ _ _ st5 fun b hb o e=>(I7.pin (b,o) (List.mem_append_right _ (List.mem_append_right _ (zed_ hb e)))).1,fun b hb=>?_,w7⟩
   obtain ⟨o,e,d⟩:=T.obj _ _ st5 b hb
   exact (I7.pin (b,o) (List.mem_append_right _ (List.mem_append_right _ (zed_ hb e)))).2.1
  cases f with
  | next=>obtain ⟨σ7,H7,I7,n7⟩:=q7; exact again I7 n7
  | cont=>obtain ⟨σ7,H7,I7,n7⟩:=q7; exact again I7 n7
  | brk=>obtain ⟨σ7,H7,I7,q7⟩:=q7; exact ⟨σ7,H7,I7.unpinned,q7⟩
  | ret v=>obtain ⟨x7,σ7,H7,I7,r7,q7⟩:=q7; exact ⟨x7,σ7,H7,I7.unpinned,r7,q7⟩
end
end L2
namespace L2
open PySem PySem.Spec PyProof.Rows
noncomputable abbrev R2:=V→V→Hp→VK→Prop
noncomputable def OpR (X:Cx) (f:Value→Value→Sem Value) (r:R2):Prop :=
 ∀ (pins:List (Addr×Obj)) (s:Shared) (σ:St) (H:Hp) (x y:V) (v u:Value) (Q:VK),Inv X pins σ H s→RelV x v→RelV y u→r x y H Q →
  wpAny (model X.prog X.w) X.A (f v u) (EP X pins σ Q) X.xe s
noncomputable def UnR (X:Cx) (f:Value→Sem Value) (r:V→Hp→VK→Prop):Prop :=
 ∀ (pins:List (Addr×Obj)) (s:Shared) (σ:St) (H:Hp) (x:V) (v:Value) (Q:VK),Inv X pins σ H s→RelV x v→r x H Q →
  wpAny (model X.prog X.w) X.A (f v) (EP X pins σ Q) X.xe s
noncomputable def CallR (X:Cx) (f:Value) (r:List V→Hp→VK→Prop):Prop :=
 ∀ (pins:List (Addr×Obj)) (s:Shared) (σ:St) (H:Hp) (xs:List V) (us:List Value) (Q:VK),Inv X pins σ H s→Vals xs us→r xs H Q →
  wpAny (model X.prog X.w) X.A (call f us) (EP X pins σ Q) X.xe s
noncomputable def tOp (r:R2) (ta tb:TE):TE:=fun σ H Q=>ta σ H fun x H1=>tb σ H1 fun y H2=>r x y H2 Q
noncomputable def tUn (r:V→Hp→VK→Prop) (ta:TE):TE:=fun σ H Q=>ta σ H fun x H1=>r x H1 Q
noncomputable def rI (C:Int→Int→Prop) (g:Int→Int→V):R2:=fun x y H Q=>∃ i j,x=.int i∧y=.int j∧C i j∧Q (g i j) H
noncomputable def rI0 (g:Int→Int→V):R2:=fun x y H Q=>∃ i j,x=.int i∧y=.int j∧Q (g i j) H
noncomputable def rU (g:Int→V):V→Hp→VK→Prop:=fun x H Q=>∃ i,x=.int i∧Q (g i) H
section
variable {X:Cx}{a b c:Expr}{ta tb tc:TE}{pos:Pos}
theorem binT (ha:PE X a ta) (hb:PE X b tb) {pins:List (Addr×Obj)}{s:Shared}{σ:St}{H:Hp}{R:V→V→Hp→Prop}(I:Inv X pins σ H s)
  (h:ta σ H fun x H1=>tb σ H1 fun y H2=>R x y H2) {Q:Value→Shared→Prop}{f:Value→Value→Sem Value}
  (hf:∀ v u s2 x y H2,Inv X pins σ H2 s2→RelV x v→RelV y u→R x y H2→wpAny (model X.prog X.w) X.A (f v u) Q X.xe s2) :
  wpAny (model X.prog X.w) X.A (eval a X.env) (fun v s₁=>wpAny (model X.prog X.w) X.A (eval b X.env) (fun u s₂=>wpAny (model X.prog X.w) X.A (f v u) Q X.xe s₂) X.xe s₁) X.xe s:=by
 refine thn (ha pins s σ H _ I h) fun v s1 ⟨x,H1,I1,r1,q1⟩=>?_
 refine thn (hb pins s1 σ H1 _ I1 q1) fun u s2 ⟨y,H2,I2,r2,q2⟩=>?_
 exact hf v u s2 x y H2 I2 r1 r2 q2
theorem zaP_ {op:Operator}{r:R2}(ho:OpR X (binaryOp op) r) (ha:PE X a ta) (hb:PE X b tb):PE X (.BinOp a op b pos) (tOp r ta tb):=by
 intro pins s σ H Q I h
 exact wpAny_BinOp (binT ha hb I h fun v u s2 x y H2 I2 rx ry q=>ho pins s2 σ H2 x y v u Q I2 rx ry q)
theorem opI {f:Value→Value→Sem Value}{C:Int→Int→Prop}{g:Int→Int→Int}
  (rule:∀ (i j:Int) (t u:Tok) (s:Shared) (Q:Value→Shared→Prop) (E:Value→Shared→Prop),C i j→Q (.int (g i j) s.toks) { s with toks:=s.toks+1 }→wpAny (model X.prog X.w) X.A (f (.int i t) (.int j u)) Q E s) :
  OpR X f (rI C fun i j=>.int (g i j)):=by
 intro pins s σ H x y v u Q I rx ry h
 obtain ⟨i,j,rfl,rfl,hc,q⟩:=h
 obtain ⟨t,rfl⟩:=rx
 obtain ⟨t',rfl⟩:=ry
 exact rule i j t t' s _ _ hc ⟨.int (g i j),H,I.tok _,⟨_,rfl⟩,q⟩
theorem opI0 {f:Value→Value→Sem Value}{g:Int→Int→Int}
  (rule:∀ (i j:Int) (t u:Tok) (s:Shared) (Q:Value→Shared→Prop) (E:Value→Shared→Prop),Q (.int (g i j) s.toks) { s with toks:=s.toks+1 }→wpAny (model X.prog X.w) X.A (f (.int i t) (.int j u)) Q E s) :
  OpR X f (rI0 fun i j=>.int (g i j)):=by
 intro pins s σ H x y v u Q I rx ry h
 obtain ⟨i,j,rfl,rfl,q⟩:=h
 obtain ⟨t,rfl⟩:=rx
 obtain ⟨t',rfl⟩:=ry
 exact rule i j t t' s _ _ ⟨.int (g i j),H,I.tok _,⟨_,rfl⟩,q⟩
theorem opB0 {f:Value→Value→Sem Value}{g:Int→Int→Bool}
  (rule:∀ (i j:Int) (t u:Tok) (s:Shared) (Q:Value→Shared→Prop) (E:Value→Shared→Prop),Q (.bool (g i j)) s→wpAny (model X.prog X.w) X.A (f (.int i t) (.int j u)) Q E s) :
  OpR X f (rI0 fun i j=>.bl (g i j)):=by
 intro pins s σ H x y v u Q I rx ry h
 obtain ⟨i,j,rfl,rfl,q⟩:=h
 obtain ⟨t,rfl⟩:=rx
 obtain ⟨t',rfl⟩:=ry
 exact rule i j t t' s _ _ ⟨.bl (g i j),H,I,rfl,q⟩
noncomputable def CDiv (i j:Int):Prop:=0<j∧j<1073741824
noncomputable def CPow (i j:Int):Prop:=0≤j∧j≤1000000∧i.natAbs<2 ^ 64
noncomputable def CMul (i j:Int):Prop:=(-(2 ^ 64)<i∧i<2 ^ 64)∨(-(2 ^ 64)<j∧j<2 ^ 64)
theorem CMul.ok {i j:Int}(h:CMul i j):IntMulOk i j:=by
 rcases h with ⟨h1,h2⟩ | ⟨h1,h2⟩
 ·exact .of_left (intBits_le_64 h1 h2)
 ·exact .of_right (intBits_le_64 h1 h2)
theorem zqh_:OpR X (binaryOp .Add) (rI0 fun i j=>.int (i+j)):=opI0 fun _ _ _ _ _ _ _ q=>add_int q
theorem zpY_:OpR X (binaryOp .Sub) (rI0 fun i j=>.int (i-j)):=opI0 fun _ _ _ _ _ _ _ q=>sub_int q
theorem zql_:OpR X (binaryOp .Mod) (rI (fun _ j=>0<j) fun i j=>.int (i % j)):=opI fun i j _ _ _ _ _ hc q=>by
 have h1:(0:Int)<j:=hc
 exact mod_int' (by omega) (by rw [Int.fmod_eq_emod_of_nonneg i (by omega)]; exact q)
theorem unI {f:Value→Sem Value}{g:Int→Int}
  (rule:∀ (i:Int) (t:Tok) (s:Shared) (Q:Value→Shared→Prop) (E:Value→Shared→Prop),Q (.int (g i) s.toks) { s with toks:=s.toks+1 }→wpAny (model X.prog X.w) X.A (f (.int i t)) Q E s) :
  UnR X f (rU fun i=>.int (g i)):=by
 intro pins s σ H x v Q I rx h
 obtain ⟨i,rfl,q⟩:=h
 obtain ⟨t,rfl⟩:=rx
 exact rule i t s _ _ ⟨.int (g i),H,I.tok _,⟨_,rfl⟩,q⟩
theorem zqi_:UnR X (unaryOp .USub) (rU fun i=>.int (-i)):=unI fun _ _ _ _ _ q=>neg_int q
end
noncomputable def scal:V→V→Bool
 | .non,.non=>true | .non,.int _=>true | .int _,.non=>true | .non,.bl _=>true | .bl _,.non=>true | .non,.str _=>true | .str _,.non=>true
 | .int _,.int _=>true | .bl _,.bl _=>true | .str _,.str _=>true | .byt _,.byt _=>true
 | .int _,.str _=>true | .str _,.int _=>true | .bl _,.str _=>true | .str _,.bl _=>true
 | _,_=>false
noncomputable def rEq:R2:=fun x y H Q=>scal x y=true∧Q (.bl (decide (x=y))) H
noncomputable def rNe:R2:=fun x y H Q=>scal x y=true∧Q (.bl (!decide (x=y))) H
theorem zma_ {i j:Int}:decide (V.int i=V.int j)=(i == j):=by
 rw [Bool.eq_iff_iff]
 simp
theorem zoJ_ {i j:Bool}:decide (V.bl i=V.bl j)=(i == j):=by
 rw [Bool.eq_iff_iff]
 simp
theorem zmf_ {i j:Str}:decide (V.str i=V.str j)=(i == j):=by
 rw [Bool.eq_iff_iff]
 simp
theorem zmc_ {i j:Array UInt8}:decide (V.byt i=V.byt j)=(i.toList == j.toList):=by
 rw [Bool.eq_iff_iff]
 cases i
 cases j
 simp
section
variable {X:Cx}{a b c:Expr}{ta tb tc:TE}{pos:Pos}
theorem zaZ_ {pins:List (Addr×Obj)}{σ:St}{H:Hp}{s:Shared}{Q:VK}{k k':Bool}(I:Inv X pins σ H s) (q:Q (.bl k) H) (e:k=k'):EP X pins σ Q (.bool k') s:=by
 subst e
 exact ⟨.bl k,H,I,rfl,q⟩
theorem op_eq:OpR X (compareOp .Eq) rEq:=by
 intro pins s σ H x y v u Q I rx ry h
 obtain ⟨hs,q⟩:=h
 cases x with
 | non =>
  cases rx
  cases y with
  | non=>cases ry; exact PySem.EqNone.eq_none_none (zaZ_ I q (by simp))
  | bl j=>cases ry; exact PySem.EqNone.eq_none_bool (zaZ_ I q (by simp))
  | int j=>obtain ⟨t',rfl⟩:=ry; exact PySem.EqNone.eq_none_int (zaZ_ I q (by simp))
  | str j=>obtain ⟨t',rfl⟩:=ry; exact PySem.EqNone.eq_none_str (zaZ_ I q (by simp))
  | _=>exact absurd (show false=true from hs) Bool.false_ne_true
 | bl i =>
  cases rx
  cases y with
  | non=>cases ry; exact PySem.EqNone.eq_bool_none (zaZ_ I q (by simp))
  | bl j=>cases ry; exact eq_bool (zaZ_ I q zoJ_)
  | str j=>obtain ⟨t',rfl⟩:=ry; exact PySem.EqMixed.eq_bool_str (zaZ_ I q (by simp))
  | _=>exact absurd (show false=true from hs) Bool.false_ne_true
 | int i =>
  obtain ⟨t,rfl⟩:=rx
  cases y with
  | non=>cases ry; exact PySem.EqNone.eq_int_none (zaZ_ I q (by simp))
  | int j=>obtain ⟨t',rfl⟩:=ry; exact eq_int (zaZ_ I q zma_)
  | str j=>obtain ⟨t',rfl⟩:=ry; exact PySem.EqMixed.eq_int_str (zaZ_ I q (by simp))
  | _=>exact absurd (show false=true from hs) Bool.false_ne_true
 | str i =>
  obtain ⟨t,rfl⟩:=rx
  cases y with
  | non=>cases ry; exact PySem.EqNone.eq_str_none (zaZ_ I q (by simp))
  | bl j=>cases ry; exact PySem.EqMixed.eq_str_bool (zaZ_ I q (by simp))
  | int j=>obtain ⟨t',rfl⟩:=ry; exact PySem.EqMixed.eq_str_int (zaZ_ I q (by simp))
  | str j=>obtain ⟨t',rfl⟩:=ry; exact eq_str (zaZ_ I q zmf_)
  | _=>exact absurd (show false=true from hs) Bool.false_ne_true
 | byt i =>
  obtain ⟨t,rfl⟩:=rx
  cases y with
  | byt j=>obtain ⟨t',rfl⟩:=ry; exact PySem.W.eq_bytes (zaZ_ I q zmc_)
  | _=>exact absurd (show false=true from hs) Bool.false_ne_true
 | _=>cases y<;>exact absurd (show false=true from hs) Bool.false_ne_true
theorem op_ne:OpR X (compareOp .NotEq) rNe:=by
 intro pins s σ H x y v u Q I rx ry h
 obtain ⟨hs,q⟩:=h
 cases x with
 | non =>
  cases rx
  cases y with
  | non=>cases ry; exact PySem.EqNone.ne_none_none (zaZ_ I q (by simp))
  | bl j=>cases ry; exact PySem.EqNone.ne_none_bool (zaZ_ I q (by simp))
  | int j=>obtain ⟨t',rfl⟩:=ry; exact PySem.EqNone.ne_none_int (zaZ_ I q (by simp))
  | str j=>obtain ⟨t',rfl⟩:=ry; exact PySem.EqNone.ne_none_str (zaZ_ I q (by simp))
  | _=>exact absurd (show false=true from hs) Bool.false_ne_true
 | bl i =>
  cases rx
  cases y with
  | non=>cases ry; exact PySem.EqNone.ne_bool_none (zaZ_ I q (by simp))
  | bl j=>cases ry; exact ne_bool (zaZ_ I q (congrArg not zoJ_))
  | str j=>obtain ⟨t',rfl⟩:=ry; exact PySem.EqMixed.ne_bool_str (zaZ_ I q (by simp))
  | _=>exact absurd (show false=true from hs) Bool.false_ne_true
 | int i =>
  obtain ⟨t,rfl⟩:=rx
  cases y with
  | non=>cases ry; exact PySem.EqNone.ne_int_none (zaZ_ I q (by simp))
  | int j=>obtain ⟨t',rfl⟩:=ry; exact ne_int (zaZ_ I q (congrArg not zma_))
  | str j=>obtain ⟨t',rfl⟩:=ry; exact PySem.EqMixed.ne_int_str (zaZ_ I q (by simp))
  | _=>exact absurd (show false=true from hs) Bool.false_ne_true
 | str i =>
  obtain ⟨t,rfl⟩:=rx
  cases y with
  | non=>cases ry; exact PySem.EqNone.ne_str_none (zaZ_ I q (by simp))
  | bl j=>cases ry; exact PySem.EqMixed.ne_str_bool (zaZ_ I q (by simp))
  | int j=>obtain ⟨t',rfl⟩:=ry; exact PySem.EqMixed.ne_str_int (zaZ_ I q (by simp))
  | str j=>obtain ⟨t',rfl⟩:=ry; exact ne_str (zaZ_ I q (congrArg not zmf_))
  | _=>exact absurd (show false=true from hs) Bool.false_ne_true
 | byt i =>
  obtain ⟨t,rfl⟩:=rx
  cases y with
  | byt j=>obtain ⟨t',rfl⟩:=ry; exact PySem.W.ne_bytes (zaZ_ I q (congrArg not zmc_))
  | _=>exact absurd (show false=true from hs) Bool.false_ne_true
 | _=>cases y<;>exact absurd (show false=true from hs) Bool.false_ne_true
theorem op_lt:OpR X (compareOp .Lt) (rI0 fun i j=>.bl (decide (i<j))):=opB0 fun _ _ _ _ _ _ _ q=>lt_int q
theorem op_gt:OpR X (compareOp .Gt) (rI0 fun i j=>.bl (decide (j<i))):=opB0 fun _ _ _ _ _ _ _ q=>gt_int q
theorem op_ge:OpR X (compareOp .GtE) (rI0 fun i j=>.bl (decide (j≤i))):=opB0 fun _ _ _ _ _ _ _ q=>ge_int q
theorem zlp_:OpR X (compareOp .Lt) (fun x y H Q=>∃ i j,x=.str i∧y=.str j∧Q (.bl (decide (i.cps.toList<j.cps.toList))) H):=by
 intro pins s σ H x y v u Q I rx ry h
 obtain ⟨i,j,rfl,rfl,q⟩:=h
 obtain ⟨t,rfl⟩:=rx
 obtain ⟨t',rfl⟩:=ry
 exact lt_str (zaZ_ I q rfl)
theorem zld_:OpR X (compareOp .In) (fun x y H Q=>∃ i j,x=.str i∧y=.str j∧Q (.bl (!(Builtin.Str.occurrences j i 0 j.length 1).isEmpty)) H):=by
 intro pins s σ H x y v u Q I rx ry h
 obtain ⟨i,j,rfl,rfl,q⟩:=h
 obtain ⟨t,rfl⟩:=rx
 obtain ⟨t',rfl⟩:=ry
 exact in_str (zaZ_ I q rfl)
theorem zpt_:OpR X (compareOp .Is) (fun x y H Q=>y=.non∧Q (.bl (decide (x=.non))) H):=by
 intro pins s σ H x y v u Q I rx ry h
 obtain ⟨rfl,q⟩:=h
 cases ry
 refine is_none_gen (zaZ_ I q ?_)
 cases x<;>first
  | (cases rx; rfl)
  | (obtain ⟨t,rfl⟩:=rx; rfl)
theorem zoF_:OpR X (compareOp .IsNot) (fun x y H Q=>y=.non∧Q (.bl (!decide (x=.non))) H):=by
 intro pins s σ H x y v u Q I rx ry h
 obtain ⟨rfl,q⟩:=h
 cases ry
 refine isnot_none_gen (zaZ_ I q ?_)
 cases x<;>first
  | (cases rx; rfl)
  | (obtain ⟨t,rfl⟩:=rx; rfl)
theorem zo0_ {op:CmpOp}{r:R2}(ho:OpR X (compareOp op) r) (ha:PE X a ta) (hb:PE X b tb) (hm:behindInMarks op b=false):PE X (.Compare a [op] [b] pos) (tOp r ta tb):=by
 intro pins s σ H Q I h
 exact wpAny_Compare1 (binT ha hb I h fun v u s2 x y H2 I2 rx ry q=>ho pins s2 σ H2 x y v u Q I2 rx ry q) hm
theorem line63:(sizeLine:Nat)<2 ^ 63:=by rw [sizeLine_eq]; decide
theorem zi0_:OpR X (binaryOp .Add) (fun x y H Q=>∃ i j,x=.str i∧y=.str j∧i.length+j.length≤sizeLine∧Q (.str (i++j)) H):=by
 intro pins s σ H x y v u Q I rx ry h
 obtain ⟨i,j,rfl,rfl,hz,q⟩:=h
 obtain ⟨t,rfl⟩:=rx
 obtain ⟨t',rfl⟩:=ry
 exact add_str (fun t' tk=>⟨.str (i++j),H,I.tok _,⟨_,rfl⟩,q⟩) hz
theorem vals1 {x:V}{us:List Value}(r:Vals [x] us):∃ u,us=[u]∧RelV x u:=by
 cases r with
 | cons r1 r2=>cases r2; exact ⟨_,rfl,r1⟩
theorem vals2 {x y:V}{us:List Value}(r:Vals [x,y] us):∃ u w',us=[u,w']∧RelV x u∧RelV y w':=by
 cases r with
 | cons r1 r2 =>
  cases r2 with
  | cons r3 r4=>cases r4; exact ⟨_,_,rfl,r1,r3⟩
theorem zkT_ (hc:X.calm=true):CallR X (.builtin "max") (fun xs H Q=>∃ i j,xs=[.int i,.int j]∧Q (.int (if j > i then j else i)) H):=by
 intro pins s σ H xs us Q I r h
 obtain ⟨i,j,rfl,q⟩:=h
 obtain ⟨u,w',rfl,⟨t,rfl⟩,⟨t',rfl⟩⟩:=vals2 r
 refine max_two_ints (I.ok.hd hc) fun h' tk k=>⟨_,H,I.kept k,?_,q⟩
 by_cases hj:j > i
 ·rw [if_pos hj,if_pos hj]; exact ⟨_,rfl⟩
 ·rw [if_neg hj,if_neg hj]; exact ⟨_,rfl⟩
theorem zkQ_ (hc:X.calm=true):CallR X (.builtin "min") (fun xs H Q=>∃ i j,xs=[.int i,.int j]∧Q (.int (if j<i then j else i)) H):=by
 intro pins s σ H xs us Q I r h
 obtain ⟨i,j,rfl,q⟩:=h
 obtain ⟨u,w',rfl,⟨t,rfl⟩,⟨t',rfl⟩⟩:=vals2 r
 refine min_two_ints (I.ok.hd hc) fun h' tk k=>⟨_,H,I.kept k,?_,q⟩
 by_cases hj:j<i
 ·rw [if_pos hj,if_pos hj]; exact ⟨_,rfl⟩
 ·rw [if_neg hj,if_neg hj]; exact ⟨_,rfl⟩
theorem zhS_:CallR X (.type "str") (fun xs H Q=>∃ i,xs=[.int i]∧i.natAbs.log2<1920∧Q (.str (toString i)) H):=by
 intro pins s σ H xs us Q I r h
 obtain ⟨i,rfl,hz,q⟩:=h
 obtain ⟨u,rfl,t,rfl⟩:=vals1 r
 exact PySem.P.str_of_int hz ⟨.str _,H,I.tok _,⟨_,rfl⟩,q⟩
end
end L2
namespace L2
open PySem PySem.Spec PyProof.Rows
structure ObjM (h:Heap) (x dx C:Addr) (mA:Str→Option Value):Prop where
 obj:h.get? x=some (PySem.W.instObj C dx)
 ns:h.Ns1 dx mA
 ne:dx≠x
theorem zkU_ {h:Heap}{dx:Addr}{mA:Str→Option Value}(n:h.Ns1 dx mA):∃ od,h.get? dx=some od∧∀ name,PySem.W.lookIn name od=some (mA name):=by
 obtain ⟨o,es,ep,ho,hd,hk,_,hm⟩:=n
 refine ⟨o,ho,fun name=>?_⟩
 have e:=hm name
 unfold nsFind findBy at e
 rw [← Array.find?_toList] at e
 unfold PySem.W.lookIn
 rw [hd]
 dsimp only
 split
 ·rename_i y q
  rw [q] at e
  exact congrArg some e
 ·rename_i q
  rw [q] at e
  have a:es.toList.any (·.refKey)=false:=by
   rw [List.any_eq_false]
   intro y hy
   obtain ⟨z,t,hkey⟩:=hk y (Array.mem_toList_iff.mp hy)
   simp [DictEntry.refKey,hkey]
  have a':¬ es.toList.any (·.refKey)=true:=by rw [a]; exact Bool.false_ne_true
  rw [if_neg a']
  exact congrArg some e
theorem ObjM.look {h:Heap}{x dx C:Addr}{mA:Str→Option Value}(I:ObjM h x dx C mA):∃ od,PySem.W.InstAt h x (PySem.W.instObj C dx) C (some od)∧∀ name,PySem.W.lookIn name od=some (mA name) :=
 let ⟨od,ho,hl⟩:=zkU_ I.ns
 ⟨od,⟨I.obj,rfl,rfl,ho⟩,hl⟩
section
variable {prog:Program}{w:World}{A:Around}{E:Value→Shared→Prop}{s:Shared}{K:PySem.W.Frag}{x dx C f:Addr}{mA:Str→Option Value}{name:Str}{v:Value}
theorem znK_ {expr:Bool}{Q:Value→Shared→Prop}(X:K.In s.heap) (I:ObjM s.heap x dx C mA) (hg:PySem.W.plainGet K C name=true) (hh:PySem.W.hasDictIn K C=true)
  (ha:PySem.W.findIn K (.ref C) name=some none) (hv:mA name=some v) (hv':PySem.W.handedIn v=true) (h:Q v { s with toks:=s.toks+1 }) :
  wpAny (model prog w) A (getAttr (.ref x) name expr) Q E s:=by
 obtain ⟨od,J,hl⟩:=I.look
 exact PySem.W.get_value X J (PySem.W.plainGet_of hg).1 (PySem.W.findObj_own hh ha rfl (by rw [hl,hv])) hv' h
theorem zmM_ {pl:Sem Bool}{Q:Value×List Value→Shared→Prop}(X:K.In s.heap) (I:ObjM s.heap x dx C mA) (hg:PySem.W.plainGet K C name=true)
  (hf:PySem.W.findIn K (.ref C) name=some (some (.ref f))) (ht:PySem.W.isFn K (.ref f)=true) (hv:mA name=none) (h:Q (.ref f,[.ref x]) s) :
  wpAny (model prog w) A (getMethod (.ref x) name pl) Q E s:=by
 obtain ⟨od,J,hl⟩:=I.look
 exact PySem.W.method_fn X J (PySem.W.plainGet_of hg).1 (PySem.W.plainGet_of hg).2 hf (beq_iff_eq.mp ht) (by show (PySem.W.lookIn name od).map (·.isSome)=some false; rw [hl,hv]; rfl) h
theorem zn4_ {ns:List Str}{Q:Unit→Shared→Prop}(X:K.In s.heap) (I:ObjM s.heap x dx C mA)
  (hs:PySem.W.findIn K (.ref C) "__setattr__" = some (some (.builtin "object.__setattr__"))) (hp:PySem.W.plainOver K C=true) (ht:PySem.W.takerIn K C name=some none) (hh:PySem.W.hasDictIn K C=true)
  (hw:PySem.Within mA ns) (hsz:ns.length≤sizeLine)
  (h:∀ h',ObjM h' x dx C (fun y=>if y=name then some v else mA y)→Heap.SameBut dx s.heap h'→Q () { s with heap:=h',toks:=s.toks+2 }) :
  wpAny (model prog w) A (setAttr (.ref x) name v) Q E s:=by
 obtain ⟨od,J,hl⟩:=I.look
 refine PySem.W.set_plain X J hs (PySem.W.osa_open (s:={ s with toks:=s.toks+1 }) (r:=none) X J hp ht fun b=>?_)
 obtain ⟨cd,hc,hd'⟩:=PySem.W.any_some hh
 have hx:s.heap.get? x=some ⟨.ref C,some dx,.plain,#[]⟩:=I.obj
 refine wpAny_bind (wpAny_pure (wpAny_bind (wpAny_bind (wpAny_loadPart hx (wpAny_bind (PySem.W.Looks.here (s:={ s with toks:=s.toks+1 }) (PySem.W.looks_clsIn X hc) ?_))))))
 rw [hd']
 refine wpAny_pure (a:=some dx) (wpAny_bind (wpAny_pure (wpAny_bind ?_)))
 refine wpAny_nsSet1 (s:={ s with toks:=s.toks+1 }) I.ns fun h' hn2 hs2=>?_
 obtain ⟨oD,esD,epD,hoD,hdD,hcD⟩:=hn2.count (PySem.Within.cons name v hw)
 refine wpAny_bind (wpAny_lookBehind hoD (by rw [hdD]; exact pastItsLine_dict (Nat.le_trans hcD (by rw [List.length_cons]; omega))) ?_)
 exact wpAny_pure (h _ ⟨(hs2.2 _ (Ne.symm I.ne)).trans I.obj,hn2,I.ne⟩ hs2)
theorem zng_ {R:Result→Shared→Prop}{vs:List Value}{kw:List (Str×Value)}(X:K.In s.heap) (hm:PySem.W.makesIn K C=true)
  (hi:PySem.W.findIn K (.ref C) "__init__" = some (some (.ref f))) (hf:PySem.W.typeIn K (.ref f)=some (.type "function"))
  (h:codeAny (model prog w) (A.under (.builtin "type.__call__" ⟨.ref C::vs,kw⟩)) (.call (.ref f) ⟨.ref (s.heap.objs.size+1)::vs,kw⟩) (PySem.W.InitBack (s.heap.objs.size+1) R)
   { s with heap:=(s.heap.push PySem.W.emptyDict).push (PySem.W.instObj C s.heap.objs.size) }) :
  codeAny (model prog w) A (.call (.ref C) ⟨vs,kw⟩) R s:=by
 obtain ⟨hh,g,d,t,os⟩:=s
 exact PySem.W.make_core (PySem.W.makes_of X hm) (PySem.W.looks_findIn X hi) (fun self=>PySem.W.bind_fn X self hf) (.inl rfl) h
end
noncomputable def putF (f:Str) (v:V):List (Str×V)→List (Str×V)
 | []=>[(f,v)]
 | (g,x)::r=>if g=f then (g,v)::r else (g,x)::putF f v r
theorem zfQ_ (f g:Str) (v:V):∀ fs:List (Str×V),(putF f v fs).lookup g=if g=f then some v else fs.lookup g
 | []=>by
  show List.lookup g [(f,v)]=_
  by_cases h:g=f
  ·have hb:(g == f)=true:=beq_iff_eq.mpr h
   simp only [List.lookup,hb,if_pos h]
  ·have hb:(g == f)=false:=beq_eq_false_iff_ne.mpr h
   simp only [List.lookup,hb,if_neg h]
 | (k,x)::r=>by
  have ih:=zfQ_ f g v r
  rw [show putF f v ((k,x)::r)=(if k=f then (k,v)::r else (k,x)::putF f v r) from rfl]
  by_cases hk:k=f
  ·rw [if_pos hk]
   by_cases h:g=k
   ·have hb:(g == k)=true:=beq_iff_eq.mpr h
    simp only [List.lookup,hb,if_pos (h.trans hk)]
   ·have hb:(g == k)=false:=beq_eq_false_iff_ne.mpr h
    simp only [List.lookup,hb,if_neg (fun e:g=f=>h (e.trans hk.symm))]
  ·rw [if_neg hk]
   by_cases h:g=k
   ·have hb:(g == k)=true:=beq_iff_eq.mpr h
    simp only [List.lookup,hb,if_neg (fun e:g=f=>hk (h.symm.trans e))]
   ·have hb:(g == k)=false:=beq_eq_false_iff_ne.mpr h
    simp only [List.lookup,hb]
    exact ih
theorem zgd_ (f:Str) (v:V):∀ fs:List (Str×V),f∈(putF f v fs).map (·.1)∧∀ g,g∈fs.map (·.1)→g∈(putF f v fs).map (·.1)
 | []=>⟨by simp [putF],fun g h=>by simp at h⟩
 | (k,x)::r=>by
  obtain ⟨i1,i2⟩:=zgd_ f v r
  rw [show putF f v ((k,x)::r)=(if k=f then (k,v)::r else (k,x)::putF f v r) from rfl]
  by_cases hk:k=f
  ·rw [if_pos hk]
   subst hk
   exact ⟨by simp,fun g h=>by simpa using h⟩
  ·rw [if_neg hk]
   refine ⟨?_,fun g h=>?_⟩
   ·rw [List.map_cons]
    exact List.mem_cons_of_mem _ i1
   ·rw [List.map_cons] at h ⊢
    rcases List.mem_cons.mp h with e | e
    ·exact List.mem_cons.mpr (.inl e)
    ·exact List.mem_cons_of_mem _ (i2 g e)
theorem zfV_ (f:Str) (v:V):∀ fs:List (Str×V),(putF f v fs).length≤fs.length+1
 | []=>by simp [putF]
 | (k,x)::r=>by
  have ih:=zfV_ f v r
  rw [show putF f v ((k,x)::r)=(if k=f then (k,v)::r else (k,x)::putF f v r) from rfl]
  by_cases hk:k=f
  ·rw [if_pos hk,List.length_cons,List.length_cons]; omega
  ·rw [if_neg hk,List.length_cons,List.length_cons]; omega
theorem RelO.some_of {v:V}{o:Option Value}(r:RelO (some v) o):∃ u,o=some u∧RelV v u:=by
 cases o with
 | none=>exact (show False from r).elim
 | some u=>exact ⟨u,rfl,r⟩
theorem RelO.none_of {o:Option Value}(r:RelO none o):o=none:=by
 cases o with
 | none=>rfl
 | some u=>exact (show False from r).elim
theorem zlr_ {v:V}{u:Value}(r:RelV v u):PySem.W.handedIn u=true:=by
 cases v with
 | non=>cases (show u=Value.none from r); rfl
 | bl b=>cases (show u=Value.bool b from r); rfl
 | int i=>obtain ⟨t,e⟩:=(show ∃ t,u=Value.int i t from r); cases e; rfl
 | str x=>obtain ⟨t,e⟩:=(show ∃ t,u=Value.str x t from r); cases e; rfl
 | byt b=>obtain ⟨t,e⟩:=(show ∃ t,u=Value.bytes b t from r); cases e; rfl
 | flt b=>obtain ⟨t,e⟩:=(show ∃ t,u=Value.float b t from r); cases e; rfl
 | ref a=>cases (show u=Value.ref a from r); rfl
 | ty n=>cases (show u=Value.type n from r); rfl
section
variable {P:Program}{w:World}{H H':Hp}{h h':Heap}{a C dx:Addr}{fs fs':List (Str×V)}
theorem zip_ (hok:HOk P w H h) (e:H a=some (.ins C dx fs)):∃ mA,ObjM h a dx C mA∧(∀ f,RelO (fs.lookup f) (mA f))∧PySem.Within mA (fs.map (·.1))∧fs.length≤1000∧H dx=some (.own a):=by
 obtain ⟨d,z,ne,ob,mA,n,r,q⟩:=(show ObjOk P w H h a (.ins C dx fs) from hok a _ e)
 exact ⟨mA,⟨ob,n,ne⟩,r,q,z,d⟩
end
structure Cls (K:PySem.W.Frag) (C:Addr):Prop where
 pg:PySem.W.plainGet K C Str.empty=true
 hd:PySem.W.hasDictIn K C=true
 po:PySem.W.plainOver K C=true
 sa:PySem.W.findIn K (.ref C) "__setattr__" = some (some (.builtin "object.__setattr__"))
theorem Cls.get {K:PySem.W.Frag}{C:Addr}(c:Cls K C) (f:Str):PySem.W.plainGet K C f=true:=c.pg
noncomputable def NoAttr (K:PySem.W.Frag) (C:Addr) (f:Str):Prop:=PySem.W.findIn K (.ref C) f=some none
theorem NoAttr.taker {K:PySem.W.Frag}{C:Addr}{f:Str}(n:NoAttr K C f):PySem.W.takerIn K C f=some none:=by
 unfold PySem.W.takerIn
 rw [show PySem.W.findIn K (.ref C) f=some none from n]
 rfl
structure Meth (K:PySem.W.Frag) (C:Addr) (m:Str) (f:Addr):Prop where
 at_:PySem.W.findIn K (.ref C) m=some (some (.ref f))
 fn:PySem.W.isFn K (.ref f)=true
 kp:PySem.W.keepIn K (.ref f)=true
section
variable {X:Cx}{pins:List (Addr×Obj)}{σ:St}{H:Hp}{s:Shared}{a C dx:Addr}{fs:List (Str×V)}{f:Str}{v:V}{A:Around}{E:Value→Shared→Prop}
theorem zkf_ {b:Bool}{Q:Value→Shared→Prop}(I:Inv X pins σ H s) (e:H a=some (.ins C dx fs)) (c:Cls X.K C) (n:NoAttr X.K C f) (l:fs.lookup f=some v)
  (h:∀ u s',Inv X pins σ H s'→RelV v u→Q u s'):wpAny (model X.prog X.w) A (getAttr (.ref a) f b) Q E s:=by
 obtain ⟨mA,O,r,_,_,_⟩:=zip_ I.hok e
 obtain ⟨u,hu,ru⟩:=RelO.some_of (v:=v) (o:=mA f) (by rw [← l]; exact r f)
 exact znK_ I.kIn O (c.get f) c.hd n hu (zlr_ ru) (h u _ (I.tok _) ru)
theorem zfb_ {m:Str}{g:Addr}{pl:Sem Bool}{Q:Value×List Value→Shared→Prop}(I:Inv X pins σ H s) (e:H a=some (.ins C dx fs)) (c:Cls X.K C) (k:Meth X.K C m g) (l:fs.lookup m=none)
  (h:Q (.ref g,[.ref a]) s):wpAny (model X.prog X.w) A (getMethod (.ref a) m pl) Q E s:=by
 obtain ⟨mA,O,r,_,_,_⟩:=zip_ I.hok e
 have hn:mA m=none:=RelO.none_of (by rw [← l]; exact r m)
 exact zmM_ I.kIn O (c.get m) k.at_ k.fn hn h
theorem zkH_ {y:V}{u:Value}{Q:Unit→Shared→Prop}(I:Inv X pins σ H s) (e:H a=some (.ins C dx fs)) (c:Cls X.K C) (n:NoAttr X.K C f) (hl:fs.length<1000) (ry:RelV y u)
  (h:∀ s',Inv X pins σ (upd H a (.ins C dx (putF f y fs))) s'→Q () s'):wpAny (model X.prog X.w) A (setAttr (.ref a) f u) Q E s:=by
 obtain ⟨mA,O,r,wi,_,ho⟩:=zip_ I.hok e
 have hz:(fs.map (·.1)).length≤sizeLine:=by rw [List.length_map,sizeLine_eq]; omega
 refine zn4_ I.kIn O c.sa c.po n.taker c.hd wi hz fun h' O' sb=>h _ ?_
 have hd:∃ o,h'.get? dx=some o:=let ⟨o,_,_,e',_⟩:=O'.ns; ⟨o,e'⟩
 refine I.write (x:=a) (e:=dx) (by rw [e]; exact True.intro) (.inr ho) (fun b q hb z=>(sb.2 b hb).trans z) hd ?_
 refine ⟨by rw [zaT_ O.ne]; exact ho,?_,O.ne,O'.obj,_,O'.ns,fun g=>?_,fun g hg=>?_⟩
 ·have:=zfV_ f y fs; omega
 ·show RelO ((putF f y fs).lookup g) (if g=f then some u else mA g)
  rw [zfQ_]
  by_cases q:g=f
  ·rw [if_pos q,if_pos q]; exact ry
  ·rw [if_neg q,if_neg q]; exact r g
 ·by_cases q:g=f
  ·rw [q]; exact (zgd_ f y fs).1
  ·refine (zgd_ f y fs).2 g (wi g fun z=>hg ?_)
   show (if g=f then some u else mA g)=none
   rw [if_neg q]; exact z
theorem Inv.made (I:Inv X pins σ H s):Inv X pins σ (upd (upd H s.heap.objs.size (.own (s.heap.objs.size+1))) (s.heap.objs.size+1) (.ins C s.heap.objs.size []))
  { s with heap:=(s.heap.push PySem.W.emptyDict).push (PySem.W.instObj C s.heap.objs.size) }:=by
 have e1:(s.heap.push PySem.W.emptyDict).get? s.heap.objs.size=some PySem.W.emptyDict:=Heap.get?_push_size s.heap rfl
 have e2:((s.heap.push PySem.W.emptyDict).push (PySem.W.instObj C s.heap.objs.size)).get? (s.heap.objs.size+1)=some (PySem.W.instObj C s.heap.objs.size):=by
  have:=Heap.get?_push_size (s.heap.push PySem.W.emptyDict) (o:=PySem.W.instObj C s.heap.objs.size) rfl
  rwa [Heap.size_push] at this
 have e3:(s.heap.push PySem.W.emptyDict).Ns s.heap.objs.size (fun _=>none):=⟨PySem.W.emptyDict,#[],_,e1,rfl,(fun e he=>absurd he (by simp)),fun _=>rfl⟩
 have I1:=I.laid (a:=s.heap.objs.size) (o:=.own (s.heap.objs.size+1)) (h':=s.heap.push PySem.W.emptyDict) (t':=s.toks) (fun b u q=>Heap.get?_push_of_some _ q) (Nat.le_refl _) ⟨_,e1⟩
 refine I1.laid (a:=s.heap.objs.size+1) (o:=.ins C s.heap.objs.size []) (t':=s.toks) (fun b u q=>Heap.get?_push_of_some _ q) (Nat.le_of_eq (Heap.size_push _ _)) ?_
 have ne:s.heap.objs.size≠s.heap.objs.size+1:=Nat.ne_of_lt (Nat.lt_succ_self _)
 refine ⟨by rw [zaT_ ne,zaY_],Nat.zero_le _,ne,e2,fun _=>none,(Heap.Ns1.of_empty e3).at fun o q=>Heap.get?_push_of_some _ q,fun _=>True.intro,fun y hy=>absurd rfl hy⟩
theorem zo2_ {prog:Program}{w:World}{env:Env}{e:Expr}{f:Str}{pos:Pos}{s:Shared}{Q:Value→Shared→Prop}(hb:attributeBase e f env (eval e env)=eval e env)
  (h:wpAny (model prog w) A (eval e env) (fun o s₁=>wpAny (model prog w) A (getAttr o f true) Q E s₁) E s):wpAny (model prog w) A (eval (.Attribute e f pos) env) Q E s :=
 Attribute_any_ h (by rw [arm_eval_Attribute,hb])
end
section
variable {X:Cx}{o e value:Expr}{f:Str}{pos pos' tpos:Pos}{ta tv:TE}
end
section
variable {X:Cx}{pins:List (Addr×Obj)}{σ:St}{H:Hp}{s:Shared}{A:Around}{E:Value→Shared→Prop}{Q:Value→Shared→Prop}{c:Value}{b:Bool}
inductive TyOf (K:PySem.W.Frag) (H:Hp):V→Value→Prop where
 | non:TyOf K H .non (.type "NoneType")
 | bl (x:Bool):TyOf K H (.bl x) (.type "bool")
 | int (i:Int):TyOf K H (.int i) (.type "int")
 | str (x:Str):TyOf K H (.str x) (.type "str")
 | flt (x:UInt64):TyOf K H (.flt x) (.type "float")
 | lst {a:Addr}{xs:List V}(e:H a=some (.lst xs)):TyOf K H (.ref a) (.type "list")
 | frz {a:Addr}{o:Obj}{xs:List V}(e:H a=some (.frz o (.lst xs))):TyOf K H (.ref a) (.type "list")
 | tup {a:Addr}{xs:List V}(e:H a=some (.tup xs)):TyOf K H (.ref a) (.type "tuple")
 | dK {a:Addr}{kvs:List (Key×V)}(e:H a=some (.dK kvs)):TyOf K H (.ref a) (.type "dict")
 | dT {a:Addr}{kvs:List (List Key×V)}(e:H a=some (.dT kvs)):TyOf K H (.ref a) (.type "dict")
 | ins {a C dx:Addr}{fs:List (Str×V)}(e:H a=some (.ins C dx fs)) (cl:Cls K C) (ha:PySem.W.findIn K (.ref C) "__class__" = some (some (.builtin "object.__class__")))
   (hn:PySem.W.specialIn K (.builtin "object.__class__") "__get__" = some (some (.builtin "getset_descriptor.__get__"))) (htk:PySem.W.takesIn K (.builtin "object.__class__")=some true)
   (hm:PySem.W.mroIn K C (.type "object")=some true):TyOf K H (.ref a) (.ref C)
theorem zlG_ {x:V}{u t:Value}(I:Inv X pins σ H s) (rx:RelV x u) (ty:TyOf X.K H x t) (e:PySem.W.kitOne X.K t c=some b) (h:∀ tk,Q (.bool b) { s with toks:=tk }) :
  wpAny (model X.prog X.w) A (call (.builtin "isinstance") [u,c]) Q E s:=by
 cases ty with
 | non=>cases (show u=Value.none from rx); exact PySem.W.kia_one PySem.W.kitx_none I.kIn True.intro e (fun z=>nomatch z) h
 | bl y=>cases (show u=Value.bool y from rx); exact PySem.W.kia_one PySem.W.kitx_bool I.kIn True.intro e (fun z=>nomatch z) h
 | int i=>obtain ⟨t,q⟩:=(show ∃ t,u=Value.int i t from rx); cases q; exact PySem.W.kia_one PySem.W.kitx_int I.kIn True.intro e (fun z=>nomatch z) h
 | str y=>obtain ⟨t,q⟩:=(show ∃ t,u=Value.str y t from rx); cases q; exact PySem.W.kia_one PySem.W.kitx_str I.kIn True.intro e (fun z=>nomatch z) h
 | flt y=>obtain ⟨t,q⟩:=(show ∃ t,u=Value.float y t from rx); cases q; exact PySem.W.kia_one PySem.W.kitx_float I.kIn True.intro e (fun z=>nomatch z) h
 | @lst a xs ea =>
  cases (show u=Value.ref a from rx)
  obtain ⟨_,_,n,_,h1⟩:=(show ObjOk X.prog X.w H s.heap a (.lst xs) from I.hok a _ ea)
  exact PySem.W.kia_one PySem.W.kitx_list I.kIn ⟨_,h1,rfl⟩ e (fun z=>nomatch z) h
 | @frz a ob xs ea =>
  cases (show u=Value.ref a from rx)
  obtain ⟨_,_,_,n,_,h1⟩:=(show ObjOk X.prog X.w H s.heap a (.frz ob (.lst xs)) from I.hok a _ ea)
  exact PySem.W.kia_one PySem.W.kitx_list I.kIn ⟨_,h1,rfl⟩ e (fun z=>nomatch z) h
 | @tup a xs ea =>
  cases (show u=Value.ref a from rx)
  obtain ⟨_,_,_,p⟩:=(show ObjOk X.prog X.w H s.heap a (.tup xs) from I.hok a _ ea)
  obtain ⟨o,h1,h2,_⟩:=p
  exact PySem.W.kia_one PySem.W.kitx_tuple I.kIn ⟨o,h1,h2⟩ e (fun z=>nomatch z) h
 | @dK a kvs ea =>
  cases (show u=Value.ref a from rx)
  obtain ⟨_,_,vs,_,p⟩:=(show ObjOk X.prog X.w H s.heap a (.dK kvs) from I.hok a _ ea)
  obtain ⟨o,es,ep,h1,h2,_⟩:=p
  exact PySem.W.kia_one PySem.W.kitx_dict I.kIn ⟨o,h1,h2.1⟩ e (fun z=>nomatch z) h
 | @dT a kvs ea =>
  cases (show u=Value.ref a from rx)
  obtain ⟨_,_,xs,_,o,es,ep,h1,h2,_⟩:=(show ObjOk X.prog X.w H s.heap a (.dT kvs) from I.hok a _ ea)
  exact PySem.W.kia_one PySem.W.kitx_dict I.kIn ⟨o,h1,h2.1⟩ e (fun z=>nomatch z) h
 | @ins a C dx fs ea cl ha hn htk hm =>
  cases (show u=Value.ref a from rx)
  obtain ⟨mA,O,_⟩:=zip_ I.hok ea
  obtain ⟨od,J,_⟩:=O.look
  exact PySem.W.kia_one (PySem.W.kitx_own (cl.get _) cl.hd ha hn htk hm) I.kIn J e (fun z=>nomatch z) h
end
end L2
namespace L2
open PySem PySem.Spec PyProof.Rows
structure Room (k:Nat) (A:Around):Prop where
 hd:A.handled=none
 dp:A.depth+3*k+5<recursionLimit
 un:A.units+16*k+200<cLine
theorem Room.mono {j k:Nat}{A:Around}(r:Room k A) (h:j≤k):Room j A:=⟨r.hd,by have:=r.dp; omega,by have:=r.un; omega⟩
theorem Room.deeper {k:Nat}{A:Around}(r:Room (k+1) A) (env:Env):Room k (A.deeper env) :=
 ⟨r.hd,by have:=r.dp; show A.depth+1+3*k+5<_; omega,by have:=r.un; show A.units+3+16*k+200<_; omega⟩
theorem zi1_ {A:Around}{C:Addr}{us:List Value}{kw:List (Str×Value)}:(A.under (.builtin "type.__call__" ⟨.ref C::us,kw⟩)).depth=A.depth+1:=by
 first | rfl | simp [Around.under,Code.weight,Code.isCreation,Code.isGuard,Code.isCaller,Code.frames,Code.isFrame,guardIds]
theorem zjQ_ {A:Around}{C:Addr}{us:List Value}{kw:List (Str×Value)}:(A.under (.builtin "type.__call__" ⟨.ref C::us,kw⟩)).units=A.units+1:=by
 first | rfl | simp [Around.under,Code.cUnits,Code.frames,Code.isFrame]
theorem Room.make {k:Nat}{A:Around}(r:Room (k+1) A) (C:Addr) (us:List Value) (kw:List (Str×Value)):Room k (A.under (.builtin "type.__call__" ⟨.ref C::us,kw⟩)) :=
 ⟨r.hd,by have:=r.dp; rw [zi1_]; omega,by have:=r.un; rw [zjQ_]; omega⟩
theorem Room.depth {k:Nat}{A:Around}(r:Room k A):A.depth<recursionLimit:=by have:=r.dp; omega
theorem Room.units {k:Nat}{A:Around}(r:Room k A):A.units+64<cLine:=by have:=r.un; omega
noncomputable def tNil:TA:=fun _ H Q=>Q [] H
noncomputable def tCons (ta:TE) (tr:TA):TA:=fun σ H Q=>ta σ H fun x H1=>tr σ H1 fun xs H2=>Q (x::xs) H2
section
variable {X:Cx}{e:Expr}{es:List Expr}{te:TE}{t:TA}{pos:Pos}
theorem zk_:PA X [] tNil:=fun _ _ _ _ H Q I h=>Calls.spliced_nil ⟨[],H,I,.nil,h⟩
theorem zc_ (ha:PE X e te) (hr:PA X es t) (hs:starEach (e::es) X.env=(false,eval e X.env)::starEach es X.env:=by rfl):PA X (e::es) (tCons te t):=by
 intro pos pins s σ H Q I h
 rw [hs]
 show wpAny _ _ (spliced ((false,eval e X.env)::backTo pos (starEach es X.env))) _ _ s
 refine Calls.spliced_cons (thn (ha pins s σ H _ I h) fun u s1 ⟨x,H1,I1,r1,q1⟩=>?_)
 exact thn (hr pos pins s1 σ H1 _ I1 q1) fun us s2 ⟨xs,H2,I2,r2,q2⟩=>⟨x::xs,H2,I2,.cons r1 r2,q2⟩
noncomputable def tTup (t:TA):TE:=fun σ H Q=>t σ H fun xs H1=>xs.length≤sizeLine∧∀ p,H1 p=none→Q (.ref p) (upd H1 p (.tup xs))
noncomputable def tLst (t:TA):TE:=fun σ H Q=>t σ H fun xs H1=>xs.length≤sizeLine∧∀ p,H1 p=none→Q (.ref p) (upd H1 p (.lst xs))
theorem znW_ {x1} (h:PA X es t):PE X (.Tuple es x1 pos) (tTup t):=by
 intro pins s σ H Q I hq
 refine wpAny_Tuple_spliced (thn (h pos pins s σ H _ I hq) fun us s1 ⟨xs,H1,I1,r,z,q⟩=>⟨by rw [← r.length]; exact z,?_⟩)
 have hf:H1 s1.heap.objs.size=none:=I1.hok.fresh (Nat.le_refl _)
 refine ⟨.ref s1.heap.objs.size,upd H1 s1.heap.objs.size (.tup xs),I1.laid (t':=s1.toks) (fun b u e=>Heap.get?_push_of_some _ e) (Nat.le_refl _) ?_,rfl,q _ hf⟩
 exact ⟨z,us,r,⟨_,Heap.get?_push_size _ rfl,rfl,_,rfl⟩⟩
theorem zcS_ (h:PA X es t):PE X (.List es pos) (tLst t):=by
 intro pins s σ H Q I hq
 refine wpAny_List_spliced (thn (h pos pins s σ H _ I hq) fun us s1 ⟨xs,H1,I1,r,z,q⟩=>⟨by rw [← r.length]; exact z,?_⟩)
 have hf:H1 s1.heap.objs.size=none:=I1.hok.fresh (Nat.le_refl _)
 refine ⟨.ref s1.heap.objs.size,upd H1 s1.heap.objs.size (.lst xs),I1.laid (t':=s1.toks) (fun b u e=>Heap.get?_push_of_some _ e) (Nat.le_refl _) ?_,rfl,q _ hf⟩
 exact ⟨z,us,0,r,Heap.get?_push_size _ rfl⟩
end
noncomputable abbrev Sp:=List V→Hp→VK→XK→Prop
noncomputable abbrev CXT:=List Env→Hp→Shared→XK→Value→Shared→Prop
structure Env0 (P:Program) (w:World) (K:PySem.W.Frag) (mg:Str→Option Value) (base:Heap) (A:Around) (outer:List Env) (s:Shared) (H:Hp):Prop where
 frames:A.frames=some outer
 mod:Mod K mg base
 bs:∀ b o,base.get? b=some o→s.heap.get? b=some o∧H b=none
 bsz:base.objs.size≤s.heap.objs.size
 funs:s.heap.FunFrames base outer
 frf:∀ b∈frs outer,H b=none
 hok:HOk P w H s.heap
 bare:AllBare s.gens
noncomputable def CE (outer:List Env) (P:Program) (w:World) (H:Hp) (s:Shared) (Q:VK) (u:Value) (s':Shared):Prop :=
 ∃ v H',s'.os=s.os∧AllBare s'.gens∧Un (frs outer) [] H H' s.heap s'.heap∧HOk P w H' s'.heap∧RelV v u∧Q v H'
noncomputable def CR (CX:CXT) (outer:List Env) (P:Program) (w:World) (H:Hp) (s:Shared) (Q:VK) (E:XK) (r:Result) (s':Shared):Prop :=
 match r with
 | .ok (.ret u)=>CE outer P w H s Q u s'
 | .ok _=>False
 | .error e=>CX outer H s E e s'
structure FnOk (P:Program) (w:World) (K:PySem.W.Frag) (mg:Str→Option Value) (base:Heap) (CX:CXT) (k:Nat) (f:Addr) (fd:FuncData) (ps:List Str) (sp:Sp):Prop where
 len:∀ vs H Q E,sp vs H Q E→vs.length=ps.length
 run:∀ (A:Around) (outer:List Env) (s:Shared) (H:Hp) (args:Args) (us:List Value) (vs:List V) (Q:VK) (E:XK),Room k A→Env0 P w K mg base A outer s H→BindsTo s fd args (ps.zip us)→Vals vs us→sp vs H Q E →
  codeAny (model P w) A (.call (.ref f) args) (CR CX outer P w H s Q E) s
theorem Env0.make {P:Program}{w:World}{K:PySem.W.Frag}{mg:Str→Option Value}{base:Heap}{A:Around}{outer:List Env}{s:Shared}{H:Hp}(e:Env0 P w K mg base A outer s H) (C:Addr) (us:List Value) (kw:List (Str×Value)) :
  Env0 P w K mg base (A.under (.builtin "type.__call__" ⟨.ref C::us,kw⟩)) outer s H:=⟨by first | exact e.frames | (simpa [Around.under,Code.envs,Code.isFrame,pushEnvs] using e.frames),e.mod,e.bs,e.bsz,e.funs,e.frf,e.hok,e.bare⟩
section
variable {X:Cx}{pins:List (Addr×Obj)}{σ:St}{H:Hp}{s s':Shared}
theorem Inv.env0 (I:Inv X pins σ H s):Env0 X.prog X.w X.K X.mg X.base X.A X.stack s H :=
 ⟨I.ok.frames,I.ok.mod,I.bs,Nat.le_trans I.ok.bsz I.sz,I.stack,I.stkFree,I.hok,I.bare⟩
theorem Inv.after {Q:VK}{u:Value}(I:Inv X pins σ H s) (h:CE X.stack X.prog X.w H s Q u s'):EP X pins σ Q u s':=by
 obtain ⟨v,H',os,bare,un,hok,r,q⟩:=h
 obtain ⟨hh,g,d,t,os'⟩:=s'
 obtain rfl:os'=s.os:=os
 exact ⟨v,H',I.call (h':=hh) (g':=g) (d':=d) (t':=t) (ch:=[]) un hok bare (fun b z=>absurd z (by simp)),r,q⟩
end
noncomputable def tCall (sp:Sp) (dvs:List V) (E:XK) (t:TA):TE:=fun σ H Q=>t σ H fun vs H1=>sp (vs++dvs) H1 Q E
noncomputable def tMeth (C:Addr) (m:Str) (sp:Sp) (dvs:List V) (E:XK) (ta:TE) (t:TA):TE:=fun σ H Q=>ta σ H fun x H1=>∃ a dx fs,x=.ref a∧H1 a=some (.ins C dx fs)∧fs.lookup m=none ∧
 t σ H1 fun vs H2=>sp (x::(vs++dvs)) H2 Q E
noncomputable def tMake (C:Addr) (sp:Sp) (dvs:List V) (E:XK) (t:TA):TE:=fun σ H Q=>t σ H fun vs H1=>∀ x dx,H1 x=none→H1 dx=none→dx≠x →
 sp (.ref x::(vs++dvs)) (upd (upd H1 dx (.own x)) x (.ins C dx [])) (fun v H2=>v=.non∧Q (.ref x) H2) E
noncomputable def Binds (K:PySem.W.Frag) (fd:FuncData) (ps:List Str) (ds:List Value):Prop :=
 ∀ (s:Shared) (us:List Value),K.In s.heap→(us++ds).length=ps.length→BindsTo s fd ⟨us,[]⟩ (ps.zip (us++ds))
theorem Binds.all {K:PySem.W.Frag}{fd:FuncData}{ps:List Str}(h:∀ us:List Value,us.length=ps.length→bindArgs fd ⟨us,[]⟩=pure (ps.zip us)):Binds K fd ps []:=fun s us _ hl=>by
 rw [List.append_nil] at hl ⊢
 exact .of_eq (h us hl)
noncomputable def Passes (CX:CXT) (X:Cx) (E:XK):Prop:=∀ (pins:List (Addr×Obj)) (σ:St) (H:Hp) (s:Shared) (e:Value) (s':Shared),Inv X pins σ H s→CX X.stack H s E e s'→X.xe e s'
section
variable {X:Cx}{CX:CXT}{k:Nat}{f C:Addr}{fd:FuncData}{ps:List Str}{sp:Sp}{dvs:List V}{ds:List Value}{E:XK}{x m:Str}{p pos apos:Pos}{e o:Expr}{es:List Expr}{ta:TE}{t:TA}
theorem zna_ {pins:List (Addr×Obj)}{σ:St}{H:Hp}{s:Shared}{Q:VK}{us:List Value}{vs:List V}(F:FnOk X.prog X.w X.K X.mg X.base CX k f fd ps sp) (hr:Room k X.A) (hb:Binds X.K fd ps ds) (hd:Vals dvs ds) (hx:Passes CX X E)
  (I:Inv X pins σ H s) (r:Vals vs us) (h:sp (vs++dvs) H Q E):wpAny (model X.prog X.w) X.A (call (.ref f) us) (EP X pins σ Q) X.xe s:=by
 have r2:Vals (vs++dvs) (us++ds):=r.append hd
 have hl:(us++ds).length=ps.length:=by rw [← r2.length]; exact F.len _ _ _ _ h
 refine wpAny_call (codeAny_mono (F.run X.A X.stack s H ⟨us,[]⟩ (us++ds) (vs++dvs) Q E hr I.env0 (hb s us I.kIn hl) r2 h) fun r s' hq=>?_)
 cases r with
 | error e=>exact hx pins σ H s e s' I hq
 | ok fl =>
  cases fl with
  | ret u=>exact I.after hq
  | next=>exact False.elim hq
  | brk=>exact False.elim hq
  | cont=>exact False.elim hq
theorem zn7_ (F:FnOk X.prog X.w X.K X.mg X.base CX k f fd ps sp) (hr:Room k X.A) (hg:Gl X x) (hm:X.mg x=some (.ref f)) (hk:PySem.W.keepIn X.K (.ref f)=true) (hb:Binds X.K fd ps ds) (hd:Vals dvs ds) (hx:Passes CX X E)
  (ha:PA X (e::es) t) (hdb:(x == ("__debug__" : Str))=false:=by decide) (he:starEach (e::es) X.env=(false,eval e X.env)::starEach es X.env:=by rfl) (hpl:(backTo pos (starEach es X.env)).any (·.1)=false:=by rfl) :
  PE X (.Call (.Name x p) (e::es) [] pos) (tCall sp dvs E t):=by
 intro pins s σ H Q I h
 refine wpAny_Call_Name_kw (zjR_ I hg hm ?_ hdb)
 refine PySem.W.callWith_K (h₀:=X.base) I.ok.mod.kin hk (thn (ha pos pins s σ H _ I h) fun us s1 ⟨vs,H1,I1,r,q⟩=>⟨I1.kIn,?_⟩) he hpl
 exact zna_ F hr hb hd hx I1 r q
theorem zoS_ {pl:Sem Bool}(he:PE X o ta) (c:Cls X.K C) (hm:Meth X.K C m f) (F:FnOk X.prog X.w X.K X.mg X.base CX k f fd ps sp) (hr:Room k X.A) (hb:Binds X.K fd ps ds) (hd:Vals dvs ds) (hx:Passes CX X E) (ha:PA X (e::es) t)
  (hst:starEach (e::es) X.env=(false,eval e X.env)::starEach es X.env:=by rfl) (hpl:(backTo pos (starEach es X.env)).any (·.1)=false:=by rfl)
  (ht:eval (.Call (.Attribute o m apos) (e::es) [] pos) X.env=(do
   let ov ← eval o X.env
   standAt apos.atName
   let (f,first) ← holding [ov] (getMethod ov m pl)
   callWith pos f first (backTo pos (starEach (e::es) X.env)) (backToKw pos (keywordEach [] X.env))):=by rfl) :
  PE X (.Call (.Attribute o m apos) (e::es) [] pos) (tMeth C m sp dvs E ta t):=by
 intro pins s σ H Q I h
 refine PySem.W.methodCall_KW (pl:=pl) (thn (he pins s σ H _ I h) fun u s1 ⟨x,H1,I1,rx,a,dx,fs,ex,ea,l,q⟩=>?_) ht
 subst ex
 obtain rfl:u=Value.ref a:=rx
 refine zfb_ I1 ea c hm l ?_
 refine PySem.W.callWith_K (first:=[.ref a]) (h₀:=X.base) I.ok.mod.kin hm.kp (thn (ha pos pins s1 σ H1 _ I1 q) fun us s2 ⟨vs,H2,I2,r,q2⟩=>⟨I2.kIn,?_⟩) hst hpl
 exact zna_ (us:=.ref a::us) (vs:=.ref a::vs) F hr hb hd hx I2 (.cons rfl r) q2
theorem znt_ {pl:Sem Bool}(he:PE X o ta) (c:Cls X.K C) (hm:Meth X.K C m f) (F:FnOk X.prog X.w X.K X.mg X.base CX k f fd ps sp) (hr:Room k X.A) (hb:Binds X.K fd ps ds) (hd:Vals dvs ds) (hx:Passes CX X E)
  (ht:eval (.Call (.Attribute o m apos) [] [] pos) X.env=(do
   let ov ← eval o X.env
   standAt apos.atName
   let (f,first) ← holding [ov] (getMethod ov m pl)
   callWith pos f first (backTo pos (starEach [] X.env)) (backToKw pos (keywordEach [] X.env))):=by rfl) :
  PE X (.Call (.Attribute o m apos) [] [] pos) (tMeth C m sp dvs E ta tNil):=by
 intro pins s σ H Q I h
 refine PySem.W.methodCall_KW (pl:=pl) (thn (he pins s σ H _ I h) fun u s1 ⟨x,H1,I1,rx,a,dx,fs,ex,ea,l,q⟩=>?_) ht
 subst ex
 obtain rfl:u=Value.ref a:=rx
 refine zfb_ I1 ea c hm l ?_
 exact PySem.W.callWith_K0 (first:=[.ref a]) I1.kIn hm.kp (zna_ (us:=[.ref a]) (vs:=[.ref a]) F hr hb hd hx I1 (.cons rfl .nil) q)
structure Mk (K:PySem.W.Frag) (C f:Addr):Prop where
 makes:PySem.W.makesIn K C=true
 init:PySem.W.findIn K (.ref C) "__init__" = some (some (.ref f))
 fn:PySem.W.isFn K (.ref f)=true
 kp:PySem.W.keepIn K (.ref C)=true
theorem zmZ_ {pins:List (Addr×Obj)}{σ:St}{H:Hp}{s:Shared}{Q:VK}{us:List Value}{vs:List V}(M:Mk X.K C f) (F:FnOk X.prog X.w X.K X.mg X.base CX k f fd ps sp) (hr:Room (k+1) X.A) (hb:Binds X.K fd ps ds) (hd:Vals dvs ds)
  (hx:Passes CX X E) (I:Inv X pins σ H s) (r:Vals vs us)
  (h:∀ x dx,H x=none→H dx=none→dx≠x→sp (.ref x::(vs++dvs)) (upd (upd H dx (.own x)) x (.ins C dx [])) (fun v H2=>v=.non∧Q (.ref x) H2) E) :
  wpAny (model X.prog X.w) X.A (call (.ref C) us) (EP X pins σ Q) X.xe s:=by
 have hq:=h (s.heap.objs.size+1) s.heap.objs.size (I.hok.fresh (Nat.le_succ _)) (I.hok.fresh (Nat.le_refl _)) (Nat.ne_of_lt (Nat.lt_succ_self _))
 have I2:=Inv.made (C:=C) I
 have r2:Vals (V.ref (s.heap.objs.size+1)::(vs++dvs)) (Value.ref (s.heap.objs.size+1)::(us++ds)):=.cons rfl (r.append hd)
 have hl:(Value.ref (s.heap.objs.size+1)::us++ds).length=ps.length:=by
  have e:=r2.length
  rw [F.len _ _ _ _ hq] at e
  exact e.symm
 refine wpAny_call (zng_ (f:=f) I.kIn M.makes M.init (beq_iff_eq.mp M.fn) (codeAny_mono (F.run _ X.stack _ _ ⟨Value.ref (s.heap.objs.size+1)::us,[]⟩ (Value.ref (s.heap.objs.size+1)::(us++ds)) _ _ E (hr.make C us [])
  (I2.env0.make C us []) (hb _ (Value.ref (s.heap.objs.size+1)::us) I2.kIn hl) r2 hq) fun r s' hq'=>?_))
 cases r with
 | error e=>exact hx pins σ _ _ e s' I2 hq'
 | ok fl =>
  cases fl with
  | ret u =>
   obtain ⟨v,H',I3,rv,ev,q3⟩:=I2.after hq'
   subst ev
   exact ⟨rv,⟨V.ref (s.heap.objs.size+1),H',I3,rfl,q3⟩⟩
  | next=>exact False.elim hq'
  | brk=>exact False.elim hq'
  | cont=>exact False.elim hq'
theorem zoE_ (M:Mk X.K C f) (F:FnOk X.prog X.w X.K X.mg X.base CX k f fd ps sp) (hr:Room (k+1) X.A) (hg:Gl X x) (hm:X.mg x=some (.ref C)) (hb:Binds X.K fd ps ds) (hd:Vals dvs ds) (hx:Passes CX X E)
  (ha:PA X (e::es) t) (hdb:(x == ("__debug__" : Str))=false:=by decide) (he:starEach (e::es) X.env=(false,eval e X.env)::starEach es X.env:=by rfl) (hpl:(backTo pos (starEach es X.env)).any (·.1)=false:=by rfl) :
  PE X (.Call (.Name x p) (e::es) [] pos) (tMake C sp dvs E t):=by
 intro pins s σ H Q I h
 refine wpAny_Call_Name_kw (zjR_ I hg hm ?_ hdb)
 refine PySem.W.callWith_K (h₀:=X.base) I.ok.mod.kin M.kp (thn (ha pos pins s σ H _ I h) fun us s1 ⟨vs,H1,I1,r,q⟩=>⟨I1.kIn,?_⟩) he hpl
 exact zmZ_ M F hr hb hd hx I1 r q
end
section
variable {X:Cx}{CX:CXT}{k:Nat}{f C:Addr}{fd:FuncData}{ps ks:List Str}{sp:Sp}{E:XK}{x m:Str}{p pos apos kpos:Pos}{e o:Expr}{es:List Expr}{kws:List Keyword}{te ta:TE}{t tk:TA}{nm:Option Str}
variable {g:List Value→List Value→List Value}{gV:List V→List V→List V}
end
structure FnScope (N P:List Str) (sc:Scope):Prop where
 kind:sc.kind=.function
 co:sc.isCoroutine=false
 gen:sc.isGenerator=false
 nd:N.Nodup
 pre:N.take P.length=P
 par:∀ x∈P,sc.names.lookup x=some .local∨sc.names.lookup x=some .cell
 nofree:∀ y∈sc.names,y.2≠.free
theorem zif_ {kindOf:Str→Option NameKind}{x:Str}:∀ {binds:List (Str×Value)}{m:Str→Option Value},(∀ v,(x,v)∉binds)→bindL kindOf binds m x=m x
 | [],_,_=>rfl
 | (n,v)::r,m,h=>by
  unfold bindL
  rw [zif_ fun w hw=>h w (List.mem_cons_of_mem _ hw)]
  split
  ·have:x≠n:=by rintro rfl; exact h v List.mem_cons_self
   simp [this]
  ·rfl
theorem zih_ {kindOf:Str→Option NameKind}{x:Str}:∀ {binds:List (Str×Value)}{m:Str→Option Value},(∀ v,(x,v)∉binds)→bindC kindOf binds m x=m x
 | [],_,_=>rfl
 | (n,v)::r,m,h=>by
  unfold bindC
  rw [zih_ fun w hw=>h w (List.mem_cons_of_mem _ hw)]
  split
  ·rfl
  ·have:x≠n:=by rintro rfl; exact h v List.mem_cons_self
   simp [this]
theorem ziu_ {kindOf:Str→Option NameKind}{x:Str}{v:Value}:∀ {P:List Str}{vs:List Value}{i:Nat}{m:Str→Option Value},P.Nodup→P[i]?=some x→vs[i]?=some v→kindOf x=some .local →
  bindL kindOf (P.zip vs) m x=some v
 | [],_,_,_,_,h,_,_=>by simp at h
 | _::_,[],_,_,_,_,h,_=>by simp at h
 | p::P,w::vs,0,m,nd,h1,h2,hk=>by
  simp at h1 h2; subst h1; subst h2
  show bindL kindOf ((p,w)::P.zip vs) m p=_
  unfold bindL
  rw [zif_ fun v hv=>(List.nodup_cons.mp nd).1 (List.of_mem_zip hv).1,if_pos hk]
  simp
 | p::P,w::vs,i+1,m,nd,h1,h2,hk=>by
  show bindL kindOf ((p,w)::P.zip vs) m x=_
  unfold bindL
  exact ziu_ (i:=i) (List.nodup_cons.mp nd).2 (by simpa using h1) (by simpa using h2) hk
theorem zit_ {kindOf:Str→Option NameKind}{x:Str}{v:Value}:∀ {P:List Str}{vs:List Value}{i:Nat}{m:Str→Option Value},P.Nodup→P[i]?=some x→vs[i]?=some v→kindOf x≠some .local →
  bindC kindOf (P.zip vs) m x=some v
 | [],_,_,_,_,h,_,_=>by simp at h
 | _::_,[],_,_,_,_,h,_=>by simp at h
 | p::P,w::vs,0,m,nd,h1,h2,hk=>by
  simp at h1 h2; subst h1; subst h2
  show bindC kindOf ((p,w)::P.zip vs) m p=_
  unfold bindC
  rw [zih_ fun v hv=>(List.nodup_cons.mp nd).1 (List.of_mem_zip hv).1,if_neg hk]
  simp
 | p::P,w::vs,i+1,m,nd,h1,h2,hk=>by
  show bindC kindOf ((p,w)::P.zip vs) m x=_
  unfold bindC
  exact zit_ (i:=i) (List.nodup_cons.mp nd).2 (by simpa using h1) (by simpa using h2) hk
noncomputable def start (N:List Str) (vs:List V):St:=vs.map some++List.replicate (N.length-vs.length) none
noncomputable def cxOf (CX:CXT) (P:Program) (w:World) (K:PySem.W.Frag) (mg:Str→Option Value) (base:Heap) (N:List Str) (qual:Str) (scope:Scope) (f:Addr) (cd:Value) (A:Around) (outer:List Env) (s:Shared) (H:Hp) (E:XK):Cx where
 prog:=P
 w:=w
 K:=K
 mg:=mg
 base:=base
 A:=A.deeper (envOfC qual scope s.heap.objs.size f cd)
 N:=N
 s₀:=s
 H₀:=H
 env:=envOfC qual scope s.heap.objs.size f cd
 outer:=outer
 stack:=envOfC qual scope s.heap.objs.size f cd::outer
 ex:=[]
 calm:=true
 fn:=fun _=>true
 pn:=[]
 xe:=fun e s'=>wpAny (model P w) (A.deeper (envOfC qual scope s.heap.objs.size f cd)) (leaving (envOfC qual scope s.heap.objs.size f cd) e) (fun _ s''=>CX outer H s E e s'') (fun e' s''=>CX outer H s E e' s'') s'
theorem zjZ_ {sc:Scope}{n:Nat}{x:Str}(h:sc.names.lookup x=some .cell):∃ c,(cellsFrom n sc.names []).lookup x=some c:=by
 have q:=PySem.W.cellsFrom_some sc.names n [] (.inl h)
 exact Option.isSome_iff_exists.mp q
theorem zlA_ {CX:CXT}{P:Program}{w:World}{K:PySem.W.Frag}{mg:Str→Option Value}{base:Heap}{N ps:List Str}{qual:Str}{scope:Scope}{f:Addr}{cd:Value}{A:Around}{outer:List Env}{s s1:Shared}{H:Hp}{E:XK}{us:List Value}{vs:List V}
  (S:FnScope N ps scope) (hd:A.handled=none) (e0:Env0 P w K mg base A outer s H) (hl:vs.length=ps.length) (r:Vals vs us)
  (x:InCallC s s.heap.objs.size (bindL (envOfC qual scope s.heap.objs.size f cd).kindOf (ps.zip us) fun _=>none) (cellsFrom (s.heap.objs.size+1) scope.names []) (bindC (envOfC qual scope s.heap.objs.size f cd).kindOf (ps.zip us) fun _=>none) s1) :
  Inv (cxOf CX P w K mg base N qual scope f cd A outer s H E) [] (start N vs) H s1:=by
 have hpl:ps.length≤N.length:=by have:=congrArg List.length S.pre; rw [List.length_take] at this; omega
 obtain ⟨h1,tk,rfl,hk⟩:=x.done
 have noA:∀ b:Addr,b∉(cxOf CX P w K mg base N qual scope f cd A outer s H E).ex:=fun b z=>absurd (show b∈([]:List Addr) from z) (by simp)
 refine ⟨⟨e0.mod,S.kind,rfl,rfl,Nat.le_refl _,fun y z c h1 h2=>?_,fun y hy=>?_,fun y c _ h=>?_,fun _=>hd,Around.frames_deeper e0.frames,.inr ⟨rfl,rfl⟩,fun b z=>absurd z (noA b),e0.bs,e0.bsz,fun b _ _=>noA b,fun b z=>absurd z (noA b),e0.funs,e0.frf⟩,
  rfl,e0.bare,Un.kept hk,⟨_,x.toInCall.ns,fun i y v h1 h2 h3=>?_⟩,fun y c h=>⟨_,x.cell y c h⟩,e0.hok.fresh (Nat.le_refl _),fun y c h=>?_,fun p hp=>absurd (show p∈([]:List (Addr×Obj)) from hp) (by simp),e0.hok.kept hk,?_⟩
 ·exact name_of_addr x.apart (PySem.mem_of_lookup h1) (PySem.mem_of_lookup h2)
 ·have hy:scope.names.lookup y=some .cell∨scope.names.lookup y=some .free:=hy
  rcases hy with hy | hy
  ·exact zjZ_ hy
  ·exact absurd rfl (S.nofree _ (PySem.mem_of_lookup hy))
 ·exact Nat.le_of_lt (x.above y c (PySem.mem_of_lookup h))
 ·have hi:i<vs.length:=by
   unfold start at h2
   by_cases hi:i<vs.length
   ·exact hi
   ·rw [List.getElem?_append_right (by simpa using hi)] at h2
    rw [List.getElem?_replicate] at h2
    split at h2<;>cases h2
  have ha:vs[i]?=some v:=by
   unfold start at h2
   rw [List.getElem?_append_left (by simpa using hi),List.getElem?_map] at h2
   cases e:vs[i]? with
   | none=>rw [e] at h2; cases h2
   | some a=>rw [e] at h2; cases h2; rfl
  obtain ⟨u,hu,rv⟩:=r.get ha
  have hp:ps[i]?=some y:=by
   rw [← S.pre,List.getElem?_take_of_lt (by omega)]; exact h1
  have ndP:ps.Nodup:=by rw [← S.pre]; exact S.nd.sublist (List.take_sublist _ _)
  refine ⟨u,rv,?_⟩
  rcases S.par y (List.mem_of_getElem? hp) with k | k
  ·exact .inl ⟨k,ziu_ ndP hp hu k⟩
  ·obtain ⟨c,e⟩:=zjZ_ (n:=s.heap.objs.size+1) k
   refine .inr ⟨.inl k,c,e,?_⟩
   have q:=x.cell y c e
   rw [zit_ ndP hp hu (by show scope.names.lookup y≠_; rw [k]; decide)] at q
   exact q
 ·exact e0.hok.fresh (Nat.le_of_lt (x.above y c (PySem.mem_of_lookup h)))
 ·unfold start
  show _=N.length
  rw [List.length_append,List.length_map,List.length_replicate]
  omega
theorem fn_of {CX:CXT}{P:Program}{w:World}{K:PySem.W.Frag}{mg:Str→Option Value}{base:Heap}{k:Nat}{f:Addr}{name qual:Str}{params:Arguments}{body:List Stmt}{scope:Scope}{dV kV doc pm cdv ct oc:Value}{an od:Option Addr}
  {osl:Array (Option Value)}{N ps:List Str}{sp:Sp}(lk:K.lookup f=some ⟨oc,od,.func (PySem.W.fnOf name qual params body scope dV kV doc pm an cdv ct),osl⟩) (hcd:PySem.W.codeIn K cdv qual=true) (S:FnScope N ps scope)
  (len:∀ vs H Q E,sp vs H Q E→vs.length=ps.length)
  (hbody:∀ (A:Around) (outer:List Env) (s:Shared) (H:Hp) (vs:List V) (Q:VK) (E:XK),Room k (A.deeper (envOfC qual scope s.heap.objs.size f cdv))→sp vs H Q E →
   ∃ t,PSs (cxOf CX P w K mg base N qual scope f cdv A outer s H E) body t∧t { nx:=fun _ H'=>Q .non H',rt:=Q } (start N vs) H) :
  FnOk P w K mg base CX (k+1) f (PySem.W.fnOf name qual params body scope dV kV doc pm an cdv ct) ps sp:=by
 refine ⟨len,fun A outer s H args us vs Q E hr e0 hb r hsp=>?_⟩
 have hl:=len _ _ _ _ hsp
 have KX:K.In s.heap:=e0.mod.kin.keeps fun b o e=>(e0.bs b o e).1
 have lim:s.heap.NoLimit:=e0.mod.nolimit.keeps fun b o e=>(e0.bs b o e).1
 have hkind:∀ y∈ps.zip us,scope.names.lookup y.1=some .local∨(scope.names.lookup y.1=some .cell∧((cellsFrom (s.heap.objs.size+1) scope.names []).lookup y.1).isSome=true):=fun ⟨n,v⟩ hy=>by
  rcases S.par n (List.of_mem_zip hy).1 with q | q
  ·exact .inl q
  ·exact .inr ⟨q,PySem.W.cellsFrom_some _ _ _ (.inl q)⟩
 refine codeAny_call_function hr.depth (KX _ _ lk) rfl S.co S.gen rfl (PySem.W.codeRec_of KX hcd) (hb _ _ _ _ ?_)
 refine wpAny_newFunctionEnv_cells S.kind hkind fun env he s1 x=>?_
 subst he
 refine ⟨lim.keeps x.toInCall.keep,codeAny_func ?_⟩
 obtain ⟨t,ht,hq⟩:=hbody A outer s H vs Q E (hr.deeper _) hsp
 have I:Inv (cxOf CX P w K mg base N qual scope f cdv A outer s H E) [] (start N vs) H s1:=zlA_ S hr.hd e0 hl r x
 refine wpAny_mono (ht [] s1 (start N vs) H _ I hq) (fun fl s' hs=>?_) fun e s' hs=>hs
 have fin:∀ {σ':St}{H':Hp}{v:V}{u:Value},Inv (cxOf CX P w K mg base N qual scope f cdv A outer s H E) [] σ' H' s'→RelV v u→Q v H'→CE outer P w H s Q u s' :=
  fun {σ' H' v u} J rv q=>⟨v,H',J.os,J.bare,J.base,J.hok,rv,q⟩
 cases fl with
 | ret u =>
  obtain ⟨v,σ',H',J,rv,q⟩:=hs
  exact fin J rv q
 | next =>
  obtain ⟨σ',H',J,q⟩:=hs
  exact fin (v:=V.non) (u:=Value.none) J rfl q
 | brk =>
  obtain ⟨_,_,_,q⟩:=hs
  exact False.elim q
 | cont =>
  obtain ⟨_,_,_,q⟩:=hs
  exact False.elim q
end L2
namespace L2
open PySem PySem.Spec PyProof.Rows
section
variable {X:Cx}{x:Str}{p pos:Pos}{e:Expr}{es:List Expr}{t:TA}{id T:String}{r:List V→Hp→VK→Prop}
noncomputable def tCB (r:List V→Hp→VK→Prop) (t:TA):TE:=fun σ H Q=>t σ H fun vs H1=>r vs H1 Q
theorem zmE_ (hc:CallR X (.builtin id) r) (hg:Gl X x) (hm:X.mg x=none) (hv:bootBuiltins x=some (.builtin id)) (ha:PA X (e::es) t) (hn:x ≠ "__name__" := by decide) (hdb:(x == ("__debug__" : Str))=false:=by decide)
  (he:starEach (e::es) X.env=(false,eval e X.env)::starEach es X.env:=by rfl) (hpl:(backTo pos (starEach es X.env)).any (·.1)=false:=by rfl):PE X (.Call (.Name x p) (e::es) [] pos) (tCB r t):=by
 intro pins s σ H Q I h
 refine wpAny_Call_Name_kw (zgW_ I hg hm hv ?_ hn hdb)
 exact PyProof.Rows.callWith_builtin1 (thn (ha pos pins s σ H _ I h) fun us s1 ⟨vs,H1,I1,r1,q1⟩=>hc pins s1 σ H1 vs us Q I1 r1 q1) he hpl
theorem zlF_ (hc:CallR X (.type T) r) (hg:Gl X x) (hm:X.mg x=none) (hv:bootBuiltins x=some (.type T)) (ha:PA X (e::es) t) (hn:x ≠ "__name__" := by decide) (hdb:(x == ("__debug__" : Str))=false:=by decide)
  (he:starEach (e::es) X.env=(false,eval e X.env)::starEach es X.env:=by rfl) (hpl:(backTo pos (starEach es X.env)).any (·.1)=false:=by rfl):PE X (.Call (.Name x p) (e::es) [] pos) (tCB r t):=by
 intro pins s σ H Q I h
 refine wpAny_Call_Name_kw (zgW_ I hg hm hv ?_ hn hdb)
 exact PyProof.Rows.callWith_type1 (thn (ha pos pins s σ H _ I h) fun us s1 ⟨vs,H1,I1,r1,q1⟩=>hc pins s1 σ H1 vs us Q I1 r1 q1) he hpl
end
end L2
namespace HT
open PySem PyProof.Rows
noncomputable def lexLt:List Int→List Int→Bool
 | [],[]=>false
 | [],_::_=>true
 | _::_,[]=>false
 | x::xs,y::ys=>if x=y then lexLt xs ys else decide (x<y)
theorem lexLt_cons (x y:Int) (xs ys:List Int):lexLt (x::xs) (y::ys)=if x=y then lexLt xs ys else decide (x<y):=rfl
theorem eqAt_int (A:Around) (s:Shared) (a:Int) (t:Tok) (c:Int) (u:Tok):∃ e,SeqAt.EqAt A s (.int a t) (.int c u) e∧(e=true↔a=c) :=
 ⟨(a == c),SeqAt.EqAt.int_int a t c u,by simp⟩
theorem rcLt_int (A:Around) (s:Shared) (a:Int) (t:Tok) (c:Int) (u:Tok) (prog:Program) (w:World) (E:Value→Shared→Prop) (Q:Value→Shared→Prop) (h:Q (.bool (decide (a<c))) s) :
  wpAny (model prog w) A (richCompare .Lt (.int a t) (.int c u)) Q E s :=
 (PyProof.Rows.lt_int h:wpAny (model prog w) A (compareOp .Lt (.int a t) (.int c u)) Q E s)
section
open PySem.SeqAt
open PySem.AutoSeq1 (wpAny_loadPart')
open PySem.MeetsSeq PySem.MeetsSeq2 PySem.MeetsSeq3
end
section
variable {prog:Program}{w:World}{A:Around}{E:Value→Shared→Prop}{s:Shared}
noncomputable def sIx (n d:Nat):Option Int→Nat
 | none=>d
 | some v=>if v<0 then (v+(n:Int)).toNat else min v.toNat n
theorem sIx_le (n d:Nat) (hd:d≤n) (o:Option Int):sIx n d o≤n:=by
 cases o with
 | none=>exact hd
 | some v =>
  show (if v<0 then (v+(n:Int)).toNat else min v.toNat n)≤n
  by_cases hv:v<0
  ·rw [if_pos hv]; omega
  ·rw [if_neg hv]; exact Nat.min_le_right _ _
end
end HT
namespace L2
open PySem PySem.Spec PyProof.Rows
noncomputable abbrev TO:=St→Hp→(Option Int→Hp→Prop)→Prop
noncomputable def PO (X:Cx) (e:Option Expr) (t:TO):Prop :=
 ∀ (pins:List (Addr×Obj)) (s:Shared) (σ:St) (H:Hp) (Q:Option Int→Hp→Prop),Inv X pins σ H s→t σ H Q →
  wpAny (model X.prog X.w) X.A (evalPart e X.env) (fun u s'=>∃ o H',Inv X pins σ H' s'∧IsPart u o∧Q o H') X.xe s
noncomputable def tNoPart:TO:=fun _ H Q=>Q none H
theorem zgE_ {ns:List Int}:∀ {us:List Value},Vals (ns.map V.int) us→IntsAre us ns:=by
 induction ns with
 | nil=>intro us r; rw [List.map_nil] at r; cases r; exact .nil
 | cons n ns ih =>
  intro us r
  rw [List.map_cons] at r
  cases r with
  | cons r1 r2 =>
   obtain ⟨t,e⟩:=r1
   subst e
   exact .cons n t (ih r2)
section
variable {X:Cx}{e:Expr}{te:TE}{lo hi:Option Expr}{tl th:TO}{pos p2:Pos}
theorem zkg_:PO X none tNoPart:=by
 intro pins s σ H Q I h
 rw [evalPart_none]
 exact wpAny_pure ⟨none,H,I,.none,h⟩
noncomputable def SlR (X:Cx) (r:V→Option Int→Option Int→Hp→VK→Prop):Prop :=
 ∀ (pins:List (Addr×Obj)) (s:Shared) (σ:St) (H:Hp) (x:V) (v vl vu:Value) (lo hi:Option Int) (sl:Addr) (Q:VK),Inv X pins σ H s→RelV x v→s.heap.IsSliceOf sl vl vu .none→IsPart vl lo→IsPart vu hi→r x lo hi H Q →
  ∃ T id,typeLookup (.type T) "__getitem__" = pure (some (.builtin id))∧s.TypeIs v T∧wpAny (model X.prog X.w) X.A (getItem v (.ref sl)) (EP X pins σ Q) X.xe s
noncomputable def tSl (r:V→Option Int→Option Int→Hp→VK→Prop) (te:TE) (tl th:TO):TE:=fun σ H Q=>te σ H fun x H1=>tl σ H1 fun l H2=>th σ H2 fun u H3=>r x l u H3 Q
theorem zek_ {r:V→Option Int→Option Int→Hp→VK→Prop}(hr:SlR X r) (he:PE X e te) (hl:PO X lo tl) (hu:PO X hi th):PE X (.Subscript e (.Slice lo hi none p2) pos) (tSl r te tl th):=by
 intro pins s σ H Q I h
 refine Subscript_ (thn (he pins s σ H _ I h) fun v s1 ⟨x,H1,I1,r1,q1⟩=>?_)
 refine wpAny_Slice (thn (hl pins s1 σ H1 _ I1 q1) fun vl s2 ⟨l,H2,I2,pl,q2⟩=>thn (hu pins s2 σ H2 _ I2 q2) fun vu s3 ⟨u,H3,I3,pu,q3⟩=>?_)
 rw [evalPart_none]
 refine wpAny_pure ?_
 have I4:Inv X pins σ H3 { s3 with heap:=s3.heap.push { cls:=.type "slice",data:=.fields #[vl,vu,.none] } }:=I3.kept (t':=s3.toks) fun b ob q=>Heap.get?_push_of_some _ q
 obtain ⟨T,id,hT,ht,hg⟩:=hr pins { s3 with heap:=s3.heap.push { cls:=.type "slice",data:=.fields #[vl,vu,.none] } } σ H3 x v vl vu l u s3.heap.objs.size Q I4 r1 (Heap.IsSliceOf.new ..) pl pu q3
 show wpAny (model X.prog X.w) X.A (subscriptTail e (.Slice lo hi none p2) v (.ref s3.heap.objs.size)) (EP X pins σ Q) X.xe { s3 with heap:=s3.heap.push { cls:=.type "slice",data:=.fields #[vl,vu,.none] } }
 exact tail_any (ops:=[.ref s3.heap.objs.size,v]) ht hT hg (by with_unfolding_all rfl)
noncomputable def cutV (xs:List V) (lo hi:Option Int):List V:=(xs.drop (HT.sIx xs.length 0 lo)).take (HT.sIx xs.length xs.length hi-HT.sIx xs.length 0 lo)
theorem ziR_ (xs:List V) (lo hi:Option Int):(cutV xs lo hi).length≤xs.length:=by
 unfold cutV
 rw [List.length_take,List.length_drop]
 omega
end
end L2
namespace L2
open PySem PySem.Spec PyProof.Rows
noncomputable def ixN (n:Nat) (i:Int):Option Nat:=if 0≤i then (if i<n then some i.toNat else none) else if -(n:Int)≤i then some (i+n).toNat else none
noncomputable def atI {α:Type}(xs:List α) (i:Int):Option α:=(ixN xs.length i).bind fun j=>xs[j]?
theorem zl1_ {n:Nat}{i:Int}{j:Nat}(h:ixN n i=some j):seqIndex? i n=some j∧j<n ∧ -(n:Int)≤i∧i<n:=by
 unfold ixN at h
 by_cases h0:0≤i
 ·rw [if_pos h0] at h
  by_cases h1:i<n
  ·rw [if_pos h1] at h
   have e:i.toNat=j:=Option.some.inj h
   exact ⟨by rw [seqIndex_of h0 h1,e],by omega,by omega,h1⟩
  ·rw [if_neg h1] at h; cases h
 ·rw [if_neg h0] at h
  by_cases h1 : -(n:Int)≤i
  ·rw [if_pos h1] at h
   have e:(i+n).toNat=j:=Option.some.inj h
   exact ⟨by rw [seqIndex_neg (by omega) h1,e],by omega,h1,by omega⟩
  ·rw [if_neg h1] at h; cases h
theorem zjA_ {α:Type}{xs:List α}{i:Int}{v:α}(h:atI xs i=some v):∃ j,seqIndex? i xs.length=some j∧xs[j]?=some v∧j<xs.length ∧ -(xs.length:Int)≤i∧i<xs.length:=by
 unfold atI at h
 cases e:ixN xs.length i with
 | none=>rw [e] at h; cases h
 | some j =>
  rw [e] at h
  obtain ⟨h1,h2,h3,h4⟩:=zl1_ e
  exact ⟨j,h1,h,h2,h3,h4⟩
noncomputable def PlainIx (b:Expr):Prop:=∀ o i,subscripted b false o i=operate [o,i] (getItem o i)
noncomputable def IxR (X:Cx) (r:R2):Prop :=
 ∀ (value slice:Expr) (pins:List (Addr×Obj)) (s:Shared) (σ:St) (H:Hp) (x y:V) (v u:Value) (Q:VK),Inv X pins σ H s→RelV x v→RelV y u→r x y H Q →
  subscripted slice false v u=operate [v,u] (getItem v u)→wpAny (model X.prog X.w) X.A (subscriptTail value slice v u) (EP X pins σ Q) X.xe s
noncomputable def MtR (X:Cx) (id:String) (r:V→List V→Hp→VK→Prop):Prop :=
 ∀ (pins:List (Addr×Obj)) (s:Shared) (σ:St) (H:Hp) (x:V) (xs:List V) (v:Value) (us:List Value) (Q:VK),Inv X pins σ H s→RelV x v→Vals xs us→r x xs H Q →
  wpAny (model X.prog X.w) X.A (call (.builtin id) (v::us)) (EP X pins σ Q) X.xe s
section
variable {X:Cx}{a b:Expr}{ta tb:TE}{pos:Pos}
theorem zdk_ {r:R2}(hr:IxR X r) (ha:PE X a ta) (hb:PE X b tb) (hs:PlainIx b):PE X (.Subscript a b pos) (tOp r ta tb):=by
 intro pins s σ H Q I h
 exact Subscript_ (binT ha hb I h fun v u s2 x y H2 I2 rx ry q=>hr a b pins s2 σ H2 x y v u Q I2 rx ry q (hs _ _))
noncomputable def rIxL (K:PySem.W.Frag):R2:=fun x y H Q=>∃ p xs i v,x=.ref p∧y=.int i∧SqL K H p xs∧atI xs i=some v∧Q v H
noncomputable def rIxT (K:PySem.W.Frag):R2:=fun x y H Q=>∃ p xs i v,x=.ref p∧y=.int i∧SqT K H p xs∧atI xs i=some v∧Q v H
noncomputable def rIxS:R2:=fun x y H Q=>∃ z i c,x=.str z∧y=.int i∧z.length≤sizeLine∧atI z.cps.toList i=some c∧Q (.str ⟨#[c]⟩) H
theorem zpa_:IxR X (rIxL X.K):=by
 intro value slice pins s σ H x y v u Q I rx ry h hs
 obtain ⟨p,xs,i,z,rfl,rfl,hq,he,q⟩:=h
 cases rx
 obtain ⟨t,rfl⟩:=ry
 obtain ⟨its,r,pl,hz⟩:=I.list hq
 obtain ⟨j,h1,h2,h3,h4,h5⟩:=zjA_ he
 obtain ⟨w,ew,rw'⟩:=r.get h2
 have hl:=r.length
 have hn:=line63
 have fin:EP X pins σ Q w s:=⟨z,H,I,rw',q⟩
 by_cases h0:0≤i
 ·have hj:i.toNat=j:=by
   rw [seqIndex_of h0 h5] at h1
   exact Option.some.inj h1
  exact item_listR pl.isList h0 (by omega) (by rw [hj]; simpa using ew) fin hs
 ·have hj:(i+(its.toArray.size:Int)).toNat=j:=by
   rw [seqIndex_neg (by omega) h4] at h1
   rw [List.size_toArray,← hl]
   exact Option.some.inj h1
  exact subscriptTail_builtinR (x:=w) pl.isList.typeIs slot_list_getitem.lookup
   (wpAny_getItem_list_neg (Q:=fun r s'=>r=w∧EP X pins σ Q r s') pl.isList (by omega) (by rw [List.size_toArray]<;>omega) (by omega) (by rw [hj]; simpa using ew) ⟨rfl,fin⟩) hs
theorem zpz_:IxR X (rIxT X.K):=by
 intro value slice pins s σ H x y v u Q I rx ry h hs
 obtain ⟨p,xs,i,z,rfl,rfl,hq,he,q⟩:=h
 cases rx
 obtain ⟨t,rfl⟩:=ry
 obtain ⟨its,r,pl,hz⟩:=I.tuple hq
 obtain ⟨j,h1,h2,h3,h4,h5⟩:=zjA_ he
 obtain ⟨w,ew,rw'⟩:=r.get h2
 have hl:=r.length
 have hn:=line63
 have fin:EP X pins σ Q w s:=⟨z,H,I,rw',q⟩
 exact subscriptTail_builtinR (x:=w) pl.typeIs slot_tuple_getitem.lookup
  (getItem_tuple (j:=j) (Q:=fun r s'=>r=w∧EP X pins σ Q r s') pl (by omega) (by omega) (by rw [List.size_toArray,← hl]; exact h1) (by simpa using ew) ⟨rfl,fin⟩) hs
theorem zpQ_:IxR X rIxS:=by
 intro value slice pins s σ H x y v u Q I rx ry h hs
 obtain ⟨z,i,c,rfl,rfl,hz,he,q⟩:=h
 obtain ⟨t,rfl⟩:=rx
 obtain ⟨t',rfl⟩:=ry
 obtain ⟨j,h1,h2,h3,h4,h5⟩:=zjA_ he
 have hl:z.cps.toList.length=z.length:=by simp [Str.length]
 rw [hl] at h1 h4 h5
 have hn:=line63
 exact tail_any (typeIs_str s z t) slot_str_getitem.lookup (getItem_str (c:=c) (by
  have e1:decide (i < -(2 ^ 63:Int))=false:=decide_eq_false (by omega)
  have e2:decide (i ≥ 2 ^ 63)=false:=decide_eq_false (by omega)
  rw [e1,e2,Bool.or_false]) (by rw [h1]; simpa using h2) ⟨.str ⟨#[c]⟩,H,I.tok _,⟨_,rfl⟩,q⟩) hs
theorem zj9_ (its:List Value) (n j:Nat) (u:Value):Obj.mapSeq (·.setIfInBounds j u) { cls:=.type "list",data:=.seq its.toArray n }={ cls:=.type "list",data:=.seq (its.set j u).toArray n }:=by
 simp [Obj.mapSeq]
theorem Inv.lst {pins:List (Addr×Obj)}{σ:St}{H:Hp}{s:Shared}{p:Addr}{xs:List V}(I:Inv X pins σ H s) (h:H p=some (.lst xs)) :
  ∃ (its:List Value) (n:Nat),Vals xs its∧s.heap.get? p=some { cls:=.type "list",data:=.seq its.toArray n }∧xs.length≤sizeLine:=by
 obtain ⟨z,its,n,r,e⟩:=I.hok p _ h
 exact ⟨its,n,r,e,z⟩
theorem Inv.lstUpd {pins:List (Addr×Obj)}{σ:St}{H:Hp}{s:Shared}{p:Addr}{xs ys:List V}{its its':List Value}{n n':Nat}{f:Obj→Obj}(I:Inv X pins σ H s) (h:H p=some (.lst xs))
  (ho:s.heap.get? p=some { cls:=.type "list",data:=.seq its.toArray n }) (hf:f { cls:=.type "list",data:=.seq its.toArray n }={ cls:=.type "list",data:=.seq its'.toArray n' }) (r:Vals ys its') (hz:ys.length≤sizeLine) (t:Nat) :
  Inv X pins σ (upd H p (.lst ys)) { s with heap:=s.heap.update p f,toks:=t }:=by
 have e:(s.heap.update p f).get? p=some { cls:=.type "list",data:=.seq its'.toArray n' }:=by
  rw [Heap.get?_update_self f ho (by rw [hf]<;>rfl),hf]
 refine I.write (x:=p) (e:=p) (by rw [h]; trivial) (.inl rfl) (fun b u hb q=>(Heap.get?_update_other _ _ (Ne.symm hb)).trans q) ⟨_,e⟩ ?_
 exact ⟨hz,its',n',r,e⟩
noncomputable def rSetL:V→V→V→Hp→(Hp→Prop)→Prop:=fun o i v H Q=>∃ p xs k j,o=.ref p∧i=.int k∧H p=some (.lst xs)∧ixN xs.length k=some j∧Q (upd H p (.lst (xs.set j v)))
theorem zmp_:PSet X rSetL:=by
 intro pins s σ H o i v ov iv u Q I ro ri rv h
 obtain ⟨p,xs,k,j,rfl,rfl,hp,hj,q⟩:=h
 cases ro
 obtain ⟨t,rfl⟩:=ri
 obtain ⟨its,n,r,ho,hz⟩:=I.lst hp
 obtain ⟨h1,h2,h3,h4⟩:=zl1_ hj
 have hl:=r.length
 have hn:=line63
 have I':Inv X pins σ (upd H p (.lst (xs.set j v))) { s with heap:=s.heap.update p (Obj.mapSeq (·.setIfInBounds j u)) } :=
  I.lstUpd hp ho (zj9_ its n j u) (r.set rv j) (by rw [List.length_set]; exact hz) s.toks
 by_cases h0:0≤k
 ·have hk:k.toNat=j:=by
   rw [seqIndex_of h0 h4] at h1
   exact Option.some.inj h1
  exact PySem.W.ki_setAt ho h0 (by omega) (by rw [List.size_toArray,← hl]; exact h4) (by rw [hk]; exact ⟨_,I',q⟩)
 ·have hk:(k+(its.toArray.size:Int)).toNat=j:=by
   rw [seqIndex_neg (by omega) h3] at h1
   rw [List.size_toArray,← hl]
   exact Option.some.inj h1
  exact PySem.W.ki_setBack ho (by omega) (by rw [List.size_toArray,← hl]; exact h3) (by omega) (by rw [hk]; exact ⟨_,I',q⟩)
theorem zhm_ (lo hi:Option Int) (n:Nat):(sliceBounds lo hi none n).1=((HT.sIx n 0 lo:Nat):Int)∧(sliceBounds lo hi none n).2.1=((HT.sIx n n hi:Nat):Int)∧(sliceBounds lo hi none n).2.2=1:=by
 refine ⟨?_,?_,rfl⟩
 ·cases lo with
  | none=>simp [sliceBounds,HT.sIx]
  | some i =>
   simp only [sliceBounds,HT.sIx,Option.getD_none,show (1:Int) > 0 by decide,if_true]
   by_cases h:i<0
   ·simp only [h,if_true]<;>omega
   ·simp only [h,if_false]<;>omega
 ·cases hi with
  | none=>simp [sliceBounds,HT.sIx]
  | some i =>
   simp only [sliceBounds,HT.sIx,Option.getD_none,show (1:Int) > 0 by decide,if_true]
   by_cases h:i<0
   ·simp only [h,if_true]<;>omega
   ·simp only [h,if_false]<;>omega
theorem zg1_ (its:List Value) (lo hi:Option Int):slicePick its.toArray lo hi none=((its.drop (HT.sIx its.length 0 lo)).take (HT.sIx its.length its.length hi-HT.sIx its.length 0 lo)).toArray:=by
 obtain ⟨h1,h2,h3⟩:=zhm_ lo hi its.toArray.size
 unfold slicePick
 rw [h1,h2,h3]
 simp only [sliceRange_one,pick_run,List.size_toArray]<;>rfl
noncomputable def rSlL (K:PySem.W.Frag):V→Option Int→Option Int→Hp→VK→Prop:=fun x lo hi H Q=>∃ a xs,x=.ref a∧SqL K H a xs∧∀ p,H p=none→Q (.ref p) (upd H p (.lst (cutV xs lo hi)))
theorem zn5_:SlR X (rSlL X.K):=by
 intro pins s σ H x v vl vu lo hi sl Q I rx hs pl pu h
 obtain ⟨a,xs,rfl,hx,q⟩:=h
 cases rx
 obtain ⟨its,r,ht,hz⟩:=I.list hx
 have hlen:=r.length
 refine ⟨"list",_,slot_list_getitem.lookup,ht.isList.typeIs,?_⟩
 refine wpAny_getItem_list_slice ht.isList hs pl pu .none (by simp) ?_ (by rw [List.size_toArray]<;>omega)
 rw [zg1_,← hlen]
 refine ⟨.ref s.heap.objs.size,_,I.laid (t':=s.toks) (o:=.lst (cutV xs lo hi)) (fun b ob q=>Heap.get?_push_of_some _ q) (Nat.le_refl _) ?_,rfl,q _ (I.hok.fresh (Nat.le_refl _))⟩
 exact ⟨Nat.le_trans (ziR_ xs lo hi) hz,_,0,(r.drop (HT.sIx xs.length 0 lo)).take (HT.sIx xs.length xs.length hi-HT.sIx xs.length 0 lo),Heap.get?_push_size _ rfl⟩
noncomputable def flatV:V→Bool
 | .non=>true
 | .bl _=>true
 | .int _=>true
 | .str _=>true
 | _=>false
noncomputable def eqV:V→V→Bool
 | .non,.non=>true
 | .bl a,.bl b=>a == b
 | .bl a,.int b=>(if a then 1 else 0) == b
 | .int a,.bl b=>a == (if b then 1 else 0)
 | .int a,.int b=>a == b
 | .str a,.str b=>a == b
 | _,_=>false
theorem zo3_ {A:Around}{s:Shared}{y x:V}{u v:Value}(ry:RelV y u) (rx:RelV x v) (fy:flatV y=true) (fx:flatV x=true):SeqAt.EqAt A s u v (eqV y x):=by
 cases y with
 | non =>
  cases ry
  cases x with
  | non=>cases rx; exact SeqAt.EqAt.same _
  | bl b=>cases rx; exact SeqAt.EqAt.none_bool b
  | int b=>obtain ⟨t,rfl⟩:=rx; exact SeqAt.EqAt.none_int b t
  | str b=>obtain ⟨t,rfl⟩:=rx; exact SeqAt.EqAt.none_str b t
  | _=>exact absurd (show false=true from fx) Bool.false_ne_true
 | bl a =>
  cases ry
  cases x with
  | non=>cases rx; exact SeqAt.EqAt.bool_none a
  | bl b=>cases rx; exact SeqAt.EqAt.bool_bool a b
  | int b=>obtain ⟨t,rfl⟩:=rx; exact SeqAt.EqAt.bool_int a b t
  | str b=>obtain ⟨t,rfl⟩:=rx; exact SeqAt.EqAt.bool_str a b t
  | _=>exact absurd (show false=true from fx) Bool.false_ne_true
 | int a =>
  obtain ⟨t',rfl⟩:=ry
  cases x with
  | non=>cases rx; exact SeqAt.EqAt.int_none a t'
  | bl b=>cases rx; exact SeqAt.EqAt.int_bool a t' b
  | int b=>obtain ⟨t,rfl⟩:=rx; exact SeqAt.EqAt.int_int a t' b t
  | str b=>obtain ⟨t,rfl⟩:=rx; exact SeqAt.EqAt.int_str a t' b t
  | _=>exact absurd (show false=true from fx) Bool.false_ne_true
 | str a =>
  obtain ⟨t',rfl⟩:=ry
  cases x with
  | non=>cases rx; exact SeqAt.EqAt.str_none a t'
  | bl b=>cases rx; exact SeqAt.EqAt.str_bool a t' b
  | int b=>obtain ⟨t,rfl⟩:=rx; exact SeqAt.EqAt.str_int a t' b t
  | str b=>obtain ⟨t,rfl⟩:=rx; exact SeqAt.EqAt.str_str a t' b t
  | _=>exact absurd (show false=true from fx) Bool.false_ne_true
 | _=>exact absurd (show false=true from fy) Bool.false_ne_true
noncomputable def eqU (x:V) (u:Value):Bool:=match u with
 | .none=>eqV .non x
 | .bool b=>eqV (.bl b) x
 | .int i _=>eqV (.int i) x
 | .str z _=>eqV (.str z) x
 | _=>false
theorem znS_ {x y:V}{u:Value}(r:RelV y u) (f:flatV y=true):eqU x u=eqV y x:=by
 cases y with
 | non=>cases r; rfl
 | bl b=>cases r; rfl
 | int i=>obtain ⟨t,rfl⟩:=r; rfl
 | str z=>obtain ⟨t,rfl⟩:=r; rfl
 | _=>exact absurd (show false=true from f) Bool.false_ne_true
theorem zjc_ {x:V}:∀ {xs:List V}{us:List Value},Vals xs us→xs.all flatV=true→us.any (eqU x)=xs.any fun y=>eqV y x
 | _,_,.nil,_=>rfl
 | y::xs,u::us,.cons r t,f=>by
  rw [List.all_cons,Bool.and_eq_true] at f
  rw [List.any_cons,List.any_cons,znS_ r f.1,zjc_ t f.2]
theorem zhX_ {A:Around}{s:Shared}{x:V}{v:Value}(rx:RelV x v) (fx:flatV x=true):∀ {xs:List V}{us:List Value},Vals xs us→xs.all flatV=true→∀ u∈us,SeqAt.EqAt A s u v (eqU x u)
 | _,_,.nil,_=>fun u hu=>by cases hu
 | y::xs,u::us,.cons r t,f=>fun u' hu=>by
  rw [List.all_cons,Bool.and_eq_true] at f
  rcases List.mem_cons.mp hu with rfl | hu
  ·rw [znS_ r f.1]; exact zo3_ r rx f.1 fx
  ·exact zhX_ rx fx t f.2 u' hu
noncomputable def inV (x:V) (xs:List V):Bool:=xs.any fun y=>eqV y x
noncomputable def rIn (K:PySem.W.Frag) (neg:Bool):R2:=fun x y H Q=>∃ p xs,y=.ref p∧(SqL K H p xs∨SqT K H p xs)∧flatV x=true∧xs.all flatV=true∧Q (.bl (if neg then !inV x xs else inV x xs)) H
theorem zkY_:OpR X (compareOp .In) (rIn X.K false):=by
 intro pins s σ H x y v u Q I rx ry h
 obtain ⟨p,xs,rfl,hq,fx,fs,q⟩:=h
 cases ry
 rcases hq with hq | hq
 ·obtain ⟨its,r,pl,hz⟩:=I.list hq
  refine SeqAt.in_listAt (eqU x) pl.isList (fun w hw=>zhX_ rx fx r fs w (by simpa using hw)) ⟨.bl _,H,I,rfl,?_⟩
  rw [show its.toArray.any (eqU x)=its.any (eqU x) by simp,zjc_ r fs]
  exact q
 ·obtain ⟨its,r,pl,hz⟩:=I.tuple hq
  refine SeqAt.in_tupleAt (eqU x) pl (fun w hw=>zhX_ rx fx r fs w (by simpa using hw)) ⟨.bl _,H,I,rfl,?_⟩
  rw [show its.toArray.any (eqU x)=its.any (eqU x) by simp,zjc_ r fs]
  exact q
theorem zhj_:CallR X (.builtin "len") (fun xs H Q=>∃ p ys,xs=[.ref p]∧(SqL X.K H p ys∨SqT X.K H p ys)∧Q (.int ys.length) H):=by
 intro pins s σ H xs us Q I r h
 obtain ⟨p,ys,rfl,hq,q⟩:=h
 obtain ⟨u,rfl,rx⟩:=vals1 r
 cases rx
 have hn:=line63
 rcases hq with hq | hq
 ·obtain ⟨its,r',pl,hz⟩:=I.list hq
  have hlen:=r'.length
  exact Calls.call_len_list pl.isList (by simp only [List.size_toArray]<;>omega) ⟨.int ys.length,H,I.tok _,⟨s.toks+1,by rw [List.size_toArray,hlen]⟩,q⟩
 ·obtain ⟨its,r',pl,hz⟩:=I.tuple hq
  have hlen:=r'.length
  exact len_tuple pl (by simp only [List.size_toArray]<;>omega) ⟨.int ys.length,H,I.tok _,⟨s.toks+1,by rw [List.size_toArray,hlen]⟩,q⟩
theorem zhL_:CallR X (.builtin "len") (fun xs H Q=>∃ z,xs=[.str z]∧z.length≤sizeLine∧Q (.int z.length) H):=by
 intro pins s σ H xs us Q I r h
 obtain ⟨z,rfl,hz,q⟩:=h
 obtain ⟨u,rfl,t,rfl⟩:=vals1 r
 have hn:=line63
 exact len_str (by omega) ⟨.int z.length,H,I.tok _,⟨_,rfl⟩,q⟩
theorem zh3_:CallR X (.type "list") (fun xs H Q=>∃ p ys,xs=[.ref p]∧(SqL X.K H p ys∨SqT X.K H p ys)∧∀ l,H l=none→Q (.ref l) (upd H l (.lst ys))):=by
 intro pins s σ H xs us Q I r h
 obtain ⟨p,ys,rfl,hq,q⟩:=h
 obtain ⟨u,rfl,rx⟩:=vals1 r
 cases rx
 have fin:∀ (its:List Value),Vals ys its→ys.length≤sizeLine→∀ (h':Heap) (c':Nat),(∀ b o',s.heap.get? b=some o'→h'.get? b=some o') →
   h'.get? s.heap.objs.size=some { cls:=.type "list",dict:=none,data:=.seq its.toArray c',slots:=#[] }→EP X pins σ Q (.ref s.heap.objs.size) { s with heap:=h' }:=fun its r' hz h' c' kp e =>
  ⟨.ref s.heap.objs.size,_,I.laid (t':=s.toks) kp (Nat.le_refl _) (show ObjOk X.prog X.w _ h' _ (.lst ys) from ⟨hz,its,c',r',e⟩),rfl,q _ (I.hok.fresh (Nat.le_refl _))⟩
 rcases hq with hq | hq
 ·obtain ⟨its,r',pl,hz⟩:=I.list hq
  have hlen:=r'.length
  obtain ⟨o,ho,hc,n,hd⟩:=pl.isList
  exact call_list_seq p (.inl rfl) ho hc hd (fun h' c' kp e=>fin its r' hz h' c' kp e) (by simp only [List.size_toArray]<;>omega)
 ·obtain ⟨its,r',pl,hz⟩:=I.tuple hq
  have hlen:=r'.length
  obtain ⟨o,ho,hc,n,hd⟩:=pl
  exact call_list_seq p (.inr rfl) ho hc hd (fun h' c' kp e=>fin its r' hz h' c' kp e) (by simp only [List.size_toArray]<;>omega)
noncomputable def tyV (K:PySem.W.Frag) (T:String) (x:V) (H:Hp):Prop:=match x with
 | .str _=>T = "str"
 | .int _=>T = "int"
 | .ref p=>(T = "list" ∧ ∃ xs,SqL K H p xs)∨(T = "tuple" ∧ ∃ o,K.lookup p=some o∧o.cls=.type "tuple" ∧ o.dict=none) ∨
   (T = "dict" ∧ ((∃ kvs,H p=some (.dK kvs))∨∃ kvs,H p=some (.dT kvs)))∨(T = "set" ∧ ∃ S n,H p=some (.set S n))
 | _=>False
theorem zoL_ {pins:List (Addr×Obj)}{σ:St}{H:Hp}{s:Shared}{T:String}{x:V}{v:Value}(I:Inv X pins σ H s) (r:RelV x v) (ty:tyV X.K T x H) :
  s.TypeIs v T∧∀ a,v=.ref a→∃ ob,s.heap.get? a=some ob∧ob.dict=none:=by
 cases x with
 | str z =>
  obtain ⟨t,rfl⟩:=r
  cases (show T = "str" from ty)
  exact ⟨typeIs_str s z t,fun _ e=>nomatch e⟩
 | int i =>
  obtain ⟨t,rfl⟩:=r
  cases (show T = "int" from ty)
  exact ⟨typeIs_int s i t,fun _ e=>nomatch e⟩
 | ref p =>
  cases r
  rcases ty with ⟨rfl,xs,hq⟩ | ⟨rfl,o,hk,hc,hd⟩ | ⟨rfl,hk⟩ | ⟨rfl,S,n,hk⟩
  ·obtain ⟨its,_,pl,_⟩:=I.list hq
   refine ⟨pl.isList.typeIs,fun a e=>?_⟩
   cases e
   obtain ⟨o,n,e,c,hd,_⟩:=pl
   exact ⟨o,e,hd⟩
  ·refine ⟨⟨o,I.kIn p o hk,hc⟩,fun a e=>?_⟩
   cases e
   exact ⟨o,I.kIn _ o hk,hd⟩
  ·have z:∃ o,s.heap.get? p=some o∧o.ExactDict:=by
    rcases hk with ⟨kvs,hk⟩ | ⟨kvs,hk⟩
    ·obtain ⟨_,_,_,_,o,_,_,e,ex,_⟩:=I.hok p _ hk
     exact ⟨o,e,ex⟩
    ·obtain ⟨_,_,_,_,o,_,_,e,ex,_⟩:=I.hok p _ hk
     exact ⟨o,e,ex⟩
   obtain ⟨o,e,ex⟩:=z
   refine ⟨⟨o,e,ex.1⟩,fun a e2=>?_⟩
   cases e2
   exact ⟨o,e,ex.2.1⟩
  ·obtain ⟨o,_,_,_,e,ex,_⟩:=I.hok p _ hk
   refine ⟨⟨o,e,ex.1⟩,fun a e2=>?_⟩
   cases e2
   exact ⟨o,e,ex.2.1⟩
 | _=>exact False.elim ty
noncomputable def tBM0 (K:PySem.W.Frag) (T:String) (r:V→List V→Hp→VK→Prop) (to:TE):TE:=fun σ H Q=>to σ H fun x H1=>tyV K T x H1∧r x [] H1 Q
noncomputable def tBM (K:PySem.W.Frag) (T:String) (r:V→List V→Hp→VK→Prop) (to:TE) (t:TA):TE:=fun σ H Q=>to σ H fun x H1=>tyV K T x H1∧t σ H1 fun xs H2=>r x xs H2 Q
variable {o e:Expr}{es:List Expr}{to:TE}{t:TA}{name:Str}{apos cpos:Pos}{T id:String}{r:V→List V→Hp→VK→Prop}
theorem znL_ (pa:PlainAttrs T) (slot:Slot T name id) (hty:typeOf (.builtin id)=pure (.type "method_descriptor")) (hm:MtR X id r) (ho:PE X o to)
  (hbase:attributeBase o name X.env (eval o X.env)=eval o X.env:=by rfl) (hline:(apos.endLine == cpos.line)=true:=by rfl):PE X (.Call (.Attribute o name apos) [] [] cpos) (tBM0 X.K T r to):=by
 intro pins s σ H Q I h
 refine wpAny_Call_method0_late hbase hline (thn (ho pins s σ H _ I h) fun v s1 ⟨x,H1,I1,r1,ty,q1⟩=>?_)
 obtain ⟨h1,h2⟩:=zoL_ I1 r1 ty
 exact ⟨T,id,pa,slot,hty,h1,h2,Calls.callWith_builtin rfl (PySem.evalArgs_none (hm pins s1 σ H1 x [] v [] Q I1 r1 .nil q1))⟩
theorem zk0_ (pa:PlainAttrs T) (slot:Slot T name id) (hty:typeOf (.builtin id)=pure (.type "method_descriptor")) (hm:MtR X id r) (ho:PE X o to) (ha:PA X (e::es) t)
  (hbase:attributeBase o name X.env (eval o X.env)=eval o X.env:=by rfl)
  (hfew:((backTo cpos (starEach (e::es) X.env)).all (fun x=>!x.1) && (backToKw cpos (keywordEach [] X.env)).all (fun x=>x.1.isSome)
   && decide ((e::es).length+([]:List Keyword).length+(if ([]:List Keyword).isEmpty then 0 else 1)<30))=true:=by rfl)
  (hline:(apos.endLine == cpos.line)=true:=by rfl) (hs:starEach (e::es) X.env=(false,eval e X.env)::starEach es X.env:=by rfl) (hplain:(backTo cpos (starEach es X.env)).any (·.1)=false:=by rfl) :
  PE X (.Call (.Attribute o name apos) (e::es) [] cpos) (tBM X.K T r to t):=by
 intro pins s σ H Q I h
 refine wpAny_Call_method_late hbase hfew hline rfl (thn (ho pins s σ H _ I h) fun v s1 ⟨x,H1,I1,r1,ty,q1⟩=>?_)
 obtain ⟨h1,h2⟩:=zoL_ I1 r1 ty
 refine ⟨T,id,pa,slot,hty,h1,h2,?_⟩
 have hA:=ha cpos pins s1 σ H1 _ I1 q1
 rw [hs] at hA ⊢
 refine Calls.callWith_builtin (by show (false || (backTo cpos (starEach es X.env)).any (·.1))=false; rw [hplain]<;>rfl) (Calls.evalArgs_plain ?_)
 exact thn hA fun us s2 ⟨vs,H2,I2,r2,q2⟩=>hm pins s2 σ H2 x vs v us Q I2 r1 r2 q2
end
end L2
namespace L2
open PySem PySem.Spec PyProof.Rows
noncomputable def MtM (X:Cx) (id:String) (r:V→List V→Hp→VK→Prop):Prop :=
 ∀ (pins:List (Addr×Obj)) (s:Shared) (σ:St) (H:Hp) (x:V) (xs:List V) (v:Value) (us:List Value) (Q:VK),Inv X pins σ H s→RelV x v→Vals xs us→r x xs H Q →
  wpAny (model X.prog X.w) X.A (call (.builtin id) (v::us)) (EP X pins σ Q) X.xe s
theorem Vals.one:∀ {x:V}{us:List Value},Vals [x] us→∃ u,us=[u]∧RelV x u
 | _,_,.cons r .nil=>⟨_,rfl,r⟩
theorem Vals.zero:∀ {us:List Value},Vals [] us→us=[]
 | _,.nil=>rfl
theorem Vals.rep {xs:List V}{us:List Value}(h:Vals xs us):∀ k:Nat,Vals (List.replicate k xs).flatten (List.replicate k us).flatten
 | 0=>.nil
 | k+1=>by
  rw [List.replicate_succ,List.replicate_succ,List.flatten_cons,List.flatten_cons]
  exact Vals.append h (Vals.rep h k)
theorem zid_ (its:List Value):∀ (k:Nat) (acc:List Value),
  List.foldl (fun x1 x2=>x1++x2) acc.toArray (List.replicate k its.toArray)=(acc++(List.replicate k its).flatten).toArray
 | 0,acc=>by simp
 | k+1,acc=>by
  have e:acc.toArray++its.toArray=(acc++its).toArray:=by simp
  have e2:(acc++its)++(List.replicate k its).flatten=acc++(List.replicate (k+1) its).flatten:=by
   rw [List.replicate_succ,List.flatten_cons,List.append_assoc]
  rw [← e2,← zid_ its k (acc++its),← e,List.replicate_succ,List.foldl_cons]
section
variable {X:Cx}{pins:List (Addr×Obj)}{σ:St}{H:Hp}{s:Shared}{l b:Addr}{xs ys zs:List V}
theorem Inv.lset {its its':List Value}{n:Nat}{f:Array Value→Array Value}{t':Nat}(I:Inv X pins σ H s) (hH:H l=some (.lst xs))
  (e:s.heap.get? l=some { cls:=.type "list",data:=.seq its.toArray n }) (hf:f its.toArray=its'.toArray) (hv:Vals ys its') (hz:ys.length≤sizeLine) :
  Inv X pins σ (upd H l (.lst ys)) { s with heap:=s.heap.update l (Obj.mapSeq f),toks:=t' }:=by
 have q:=PySem.IsL.update e f
 rw [hf] at q
 refine I.write (x:=l) (e:=l) (by rw [hH]; exact trivial) (.inl rfl) (fun b' u hb hu=>(Heap.get?_update_other s.heap (Obj.mapSeq f) (Ne.symm hb)).trans hu) ⟨_,q⟩ ?_
 exact ⟨hz,its',_,hv,q⟩
theorem Inv.lnew {its:List Value}{t':Nat}(I:Inv X pins σ H s) (hv:Vals ys its) (hz:ys.length≤sizeLine) :
  Inv X pins σ (upd H s.heap.objs.size (.lst ys)) { s with heap:=s.heap.push { cls:=.type "list",data:=.seq its.toArray },toks:=t' } :=
 I.laid (fun _ _ q=>Heap.get?_push_of_some _ q) (Nat.le_refl _) ⟨hz,its,0,hv,Heap.get?_push_size _ rfl⟩
theorem Inv.fresh (I:Inv X pins σ H s):H s.heap.objs.size=none:=I.hok.fresh (Nat.le_refl _)
theorem Inv.lstM (I:Inv X pins σ H s) (hH:H l=some (.lst xs)):xs.length≤sizeLine∧∃ (its:List Value) (n:Nat),Vals xs its∧xs.length=its.length∧s.heap.get? l=some { cls:=.type "list",data:=.seq its.toArray n }:=by
 obtain ⟨z,its,n,r,e⟩:=I.hok l _ hH
 exact ⟨z,its,n,r,r.length,e⟩
theorem notLongL {n:Nat}(h:n≤sizeLine):Builtin.List.listTooLong n=false:=by
 unfold Builtin.List.listTooLong
 exact decide_eq_false (by omega)
end
section
variable {X:Cx}
noncomputable def rAppend:V→List V→Hp→VK→Prop:=fun x vs H Q=>∃ l xs y,x=.ref l∧vs=[y]∧H l=some (.lst xs)∧xs.length<sizeLine∧Q .non (upd H l (.lst (xs++[y])))
theorem zcv_:MtM X "list.append" rAppend:=by
 intro pins s σ H x vs v us Q I rx rv h
 obtain ⟨l,xs,y,rfl,rfl,hH,hz,q⟩:=h
 cases rx
 obtain ⟨u,rfl,ru⟩:=rv.one
 obtain ⟨z,its,n,r,hl,e⟩:=I.lstM hH
 refine call_meets F.slot_list_append ⟨_,e,rfl⟩ F.entry_list_append (F.args_list_append_2 _ _) (PySem.list_append l its.toArray n u (by rw [List.size_toArray]; omega)) ⟨e,?_⟩
 refine ⟨.non,_,I.lset (its':=its++[u]) hH e (by simp) (r.append (.cons ru .nil)) ?_,rfl,q⟩
 rw [List.length_append,List.length_singleton]
 omega
noncomputable def rExtend:V→List V→Hp→VK→Prop:=fun x vs H Q=>∃ l b xs zs,x=.ref l∧vs=[.ref b]∧H l=some (.lst xs)∧H b=some (.lst zs)∧xs.length+zs.length≤sizeLine∧Q .non (upd H l (.lst (xs++zs)))
theorem zh9_:MtM X "list.extend" rExtend:=by
 intro pins s σ H x vs v us Q I rx rv h
 obtain ⟨l,b,xs,zs,rfl,rfl,hH,hB,hz,q⟩:=h
 cases rx
 obtain ⟨u,rfl,ru⟩:=rv.one
 cases ru
 obtain ⟨z,its,n,r,hl,e⟩:=I.lstM hH
 obtain ⟨z2,its2,n2,r2,hl2,e2⟩:=I.lstM hB
 have hsz:its.toArray.size+its2.toArray.size≤sizeLine:=by rw [List.size_toArray,List.size_toArray]; omega
 have hlong:¬ (!its.toArray.isEmpty && Builtin.List.listTooLong (its.toArray.size+its2.toArray.size))=true:=by
  rw [notLongL hsz,Bool.and_false]
  exact Bool.false_ne_true
 refine call_meets F.slot_list_extend ⟨_,e,rfl⟩ F.entry_list_extend (F.args_list_extend_2 _ _)
  (AutoSeq1.list_extend_list_list_0 l its.toArray n b its2.toArray n2 hlong (by rw [List.size_toArray]; omega) (by omega)) ⟨e,e2,?_⟩
 refine ⟨.non,_,I.lset (its':=its++its2) hH e (by simp) (r.append r2) ?_,rfl,q⟩
 rw [List.length_append]
 omega
noncomputable def rClear:V→List V→Hp→VK→Prop:=fun x vs H Q=>∃ l xs,x=.ref l∧vs=[]∧H l=some (.lst xs)∧Q .non (upd H l (.lst []))
theorem zkp_:MtM X "list.clear" rClear:=by
 intro pins s σ H x vs v us Q I rx rv h
 obtain ⟨l,xs,rfl,rfl,hH,q⟩:=h
 cases rx
 have hus:=rv.zero
 subst hus
 obtain ⟨z,its,n,r,hl,e⟩:=I.lstM hH
 refine call_meets F.slot_list_clear ⟨_,e,rfl⟩ F.entry_list_clear (F.args_list_clear_1 _) (AutoSeq1.list_clear_list_0 l its.toArray n (by rw [List.size_toArray]; omega)) ⟨e,?_⟩
 exact ⟨.non,_,I.lset (its':=[]) (ys:=[]) hH e rfl .nil (Nat.zero_le _),rfl,q⟩
noncomputable def rCat:R2:=fun x y H Q=>∃ l b xs zs,x=.ref l∧y=.ref b∧H l=some (.lst xs)∧H b=some (.lst zs)∧xs.length+zs.length≤sizeLine∧∀ p,H p=none→Q (.ref p) (upd H p (.lst (xs++zs)))
theorem zqg_:OpR X (binaryOp .Add) rCat:=by
 intro pins s σ H x y v u Q I rx ry h
 obtain ⟨l,b,xs,zs,rfl,rfl,hH,hB,hz,q⟩:=h
 cases rx
 cases ry
 obtain ⟨z,its,n,r,hl,e⟩:=I.lstM hH
 obtain ⟨z2,its2,n2,r2,hl2,e2⟩:=I.lstM hB
 refine PySem.P.add_list e e2 ?_ (by rw [List.size_toArray,List.size_toArray]; omega)
 have ea:its.toArray++its2.toArray=(its++its2).toArray:=by simp
 rw [ea]
 exact ⟨.ref _,_,I.lnew (t':=s.toks) (r.append r2) (by rw [List.length_append]; omega),rfl,q _ I.fresh⟩
noncomputable def rRep:R2:=fun x y H Q=>∃ l k xs,x=.ref l∧y=.int k∧H l=some (.lst xs) ∧ -(2 ^ 63)≤k∧k<2 ^ 63∧xs.length*k.toNat≤sizeLine ∧
 ∀ p,H p=none→Q (.ref p) (upd H p (.lst (List.replicate k.toNat xs).flatten))
theorem zml_ {α:Type}(xs:List α) (k:Nat):(List.replicate k xs).flatten.length=k*xs.length:=by
 induction k with
 | zero=>simp
 | succ k ih=>rw [List.replicate_succ,List.flatten_cons,List.length_append,ih,Nat.succ_mul,Nat.add_comm]
theorem zqv_:OpR X (binaryOp .Mult) rRep:=by
 intro pins s σ H x y v u Q I rx ry h
 obtain ⟨l,k,xs,rfl,rfl,hH,h1,h2,hz,q⟩:=h
 cases rx
 obtain ⟨t,rfl⟩:=ry
 obtain ⟨z,its,n,r,hl,e⟩:=I.lstM hH
 have hlen:its.toArray.size*k.toNat≤sizeLine:=by rw [List.size_toArray,← hl]; exact hz
 have hcap:¬ its.toArray.size*k.toNat > (2 ^ 63-1) / 8:=by
  have:(sizeLine:Nat)≤(2 ^ 63-1) / 8:=by decide
  omega
 have hfit:¬ (!Builtin.List.listFitsIndex k)=true:=by
  rw [fitsIndex_both h1 h2]
  exact Bool.false_ne_true
 have hlong:¬ Builtin.List.listTooLong (its.toArray.size*k.toNat)=true:=by
  rw [notLongL hlen]
  exact Bool.false_ne_true
 have hnew:List.foldl (fun x1 x2=>x1++x2) #[] (List.replicate (if its.toArray.isEmpty=true then 0 else k.toNat) its.toArray)=(List.replicate k.toNat its).flatten.toArray:=by
  have f0:∀ m:Nat,List.foldl (fun x1 x2=>x1++x2) #[] (List.replicate m its.toArray)=(List.replicate m its).flatten.toArray:=fun m=>by
   have:=zid_ its m []
   rw [List.nil_append] at this
   exact this
  rw [f0]
  cases its with
  | nil=>simp
  | cons a r'=>rw [if_neg (by simp)]
 refine wpAny_binaryOp_repeat_ref (T := "list") (U := "int") (by decide) ⟨_,e,rfl⟩ (fun s'=>typeIs_int s' k t) noFill_list_mul F.fills_int_mul F.slot_int_rmul repeat_list F.slot_int_index.lookup
  (call_meets F.slot_int_rmul (typeIs_int s k t) F.entry_int_rmul (F.args_int_rmul_2 _ _) (int___rmul___int_list k t l its.toArray n)
   ⟨e,rfl,⟨_,e,rfl⟩,call_meets F.slot_list_mul ⟨_,e,rfl⟩ F.entry_list_mul (F.args_list_mul_2 _ _) (AutoListH.list___mul___list_int_3 l its.toArray n k t hfit hcap hlong) ⟨e,?_⟩⟩)
 rw [hnew]
 exact ⟨.ref _,_,I.lnew (t':=s.toks) (r.rep k.toNat) (by rw [zml_,Nat.mul_comm]; exact hz),rfl,q _ I.fresh⟩
end
section
variable {prog:Program}{w:World}{A:Around}{E:Value→Shared→Prop}{s:Shared}
end
section
variable {X:Cx}
end
end L2
namespace Att
open PySem PySem.W PySem.Calls PyProof.Rows
theorem zfB_ {P:Params}{h:Heap}:∀ (ns:List Int) (vs:List Value),WellAll P h vs (ns.map WData.int)→IntsAre vs ns:=by
 intro ns
 induction ns with
 | nil =>
  intro vs w
  rw [List.map_nil] at w
  cases w
  exact .nil
 | cons n ns ih =>
  intro vs w
  rw [List.map_cons] at w
  cases w with
  | cons a b =>
   cases a
   exact .cons _ _ (ih _ b)
theorem zk4_ {l:OpenLaw}{n:Nat}(hn:l.most=some n) {P:Params}{h:Heap}{args:List WData}{vals:List Value}
  (hpre:l.row.toRowW.claim.pre args=true) (hwl:WellAll P h vals args) :
  ∃ a vs ns,vals=[Value.ref a]∧args=[WData.list (ns.map WData.int)]∧h.get? a=some { cls:=.type "list",data:=.seq vs.toArray }∧IntsAre vs ns∧ns.length≤n:=by
 have hsh:WShape.hasAll [] args [.list .int]=true:=(pre_splitW hpre).1
 have hc:l.pre.holds [] { args:=args }=true:=(pre_splitW hpre).2
 obtain ⟨d,r,rfl,h1,h2⟩:=hasAllW_cons hsh
 obtain rfl:=hasAllW_nil h2
 obtain ⟨xs,rfl,h3⟩:=hasW_list h1
 obtain ⟨ns,rfl⟩:=items_int h3
 have hlen:ns.length≤n:=by
  unfold OpenLaw.pre at hc
  have h4:(WTm.not (.lt (.lit (.int (n:Int))) (.len (.arg 0)))).holds [] { args:=[.list (ns.map .int)] }=true:=by
   have h4:=(holds_andW hc).1
   rw [hn] at h4
   exact h4
  have h5:=condW_of h4 (w_not (w_lt w_lit (w_len_list (w_arg rfl))))
  rw [List.length_map] at h5
  refine Nat.le_of_not_lt fun q=>?_
  have q':(n:Int)<((ns.length:Nat):Int):=by omega
  first
   | (rw [decide_eq_true q'] at h5; exact absurd h5 (by decide))
   | (simp at h5; omega)
 cases hwl with
 | cons w1 w2 =>
  cases w2
  cases w1 with
  | list ho hall=>exact ⟨_,_,ns,rfl,rfl,ho,zfB_ ns _ hall,hlen⟩
theorem zlb_ (l:OpenLaw) (args:List WData):l.row.toRowW.claim.post args (.bool true) args=true :=
 postW_of (r:=l.row.toRowW) (X:=(true == true))
  (show WShape.has [] (.bool true) .bool=true by first | rfl | decide | simp [WShape.has,WShape.arms,WShape.armsAll])
  (show (WTm.eq .res (.lit (.bool true))).value [] { args:=args,res:=some (.bool true),after:=args }=some (.bool (true == true)) from w_eq_bool (w_res rfl) w_lit) rfl
section
variable {prog:Program}{w:World}{A:Around}{E:Value→Shared→Prop}{s:Shared}{K:Frag}
end
end Att
namespace L2
open PySem PySem.Spec PyProof.Rows
theorem zii_:∀ {vs:List Value}{ns:List Int},IntsAre vs ns→Vals (ns.map V.int) vs
 | _,_,.nil=>.nil
 | _,_,.cons n t h=>.cons ⟨t,rfl⟩ (zii_ h)
noncomputable def Only (H:Hp):Prop:=∀ b,H b=none∨∃ o xs,H b=some (.frz o (.lst xs))
theorem zmW_ {P:Program}{w:World}{K:PySem.W.Frag}{mg mb:Str→Option Value}{CX:CXT}{k:Nat}{fa a:Addr}{fd:FuncData}{x:Str}{sp:Sp}{s₁:Shared}{vs:List Value}{ns:List Int}
  (KX:K.In s₁.heap) (hns:s₁.heap.Ns mainGlobals mg) (hb:s₁.heap.Ns builtinsNs mb) (hbb:∀ x:Str,x ≠ "__name__" → mb x=bootBuiltins x) (hlim:s₁.heap.NoLimit) (hg:s₁.gens=#[])
  (ha:s₁.heap.get? a=some { cls:=.type "list",data:=.seq vs.toArray }) (hi:IntsAre vs ns) (hl:ns.length≤sizeLine) (hr:Room k callerA)
  (F:∀ base:Heap,K.In base→base.Ns mainGlobals mg→FnOk P w K mg base CX k fa fd [x] sp) (hbind:∀ (s:Shared) (u:Value),BindsTo s fd ⟨[u],[]⟩ [(x,u)])
  (hsp:∀ H:Hp,Only H→SqL K H a (ns.map V.int)→sp [.ref a] H (fun v _=>v=.bl true) fun _ _ _=>False)
  (hCX:∀ H e s',CX [] H s₁ (fun _ _ _=>False) e s'→False) :
  codeAny (model P w) callerA (.call (.ref fa) ⟨[.ref a],[]⟩) (fun r s'=>r=.ok (.ret (.bool true))∧OldK s₁.heap s'.heap∧s'.os=s₁.os∧AllBare s'.gens) s₁:=by
 have rv:=zii_ hi
 have lenV:=hi.length
 have core:∀ H:Hp,Only H→SqL K H a (ns.map V.int)→HOk P w H s₁.heap→(∀ b,H b≠none→b=a)→(H a≠none→K.lookup a=none) →
   codeAny (model P w) callerA (.call (.ref fa) ⟨[.ref a],[]⟩) (fun r s'=>r=.ok (.ret (.bool true))∧OldK s₁.heap s'.heap∧s'.os=s₁.os∧AllBare s'.gens) s₁:=by
  intro H hO hS hok hA hK
  have base_of:∀ {b:Addr}{o:Obj},s₁.heap.get? b=some o→H b=none→(hidT s₁.heap H).get? b=some o:=fun e n=>znx_ e n
  have noA:∀ {b:Addr}{o:Obj}{es:Array DictEntry}{ep:Nat},s₁.heap.get? b=some o→o.data=.dict es ep→H b=none:=fun {b o es ep} e d=>by
   cases q:H b with
   | none=>rfl
   | some u =>
    have e':b=a:=hA b (by rw [q]; simp)
    subst e'
    rw [ha] at e; cases e
    have d':Data.seq vs.toArray _=Data.dict es ep:=d
    cases d'
  have nsK:∀ {b:Addr}{m:Str→Option Value},s₁.heap.Ns b m→(hidT s₁.heap H).Ns b m:=fun {b m} ⟨o,es,ep,e,d,r⟩=>⟨o,es,ep,base_of e (noA e d),d,r⟩
  have hKb:K.In (hidT s₁.heap H):=fun b o e=>base_of (KX b o e) (by
   cases q:H b with
   | none=>rfl
   | some u =>
    have e':b=a:=hA b (by rw [q]; simp)
    subst e'
    rw [hK (by rw [q]; simp)] at e; cases e)
  have hM:Mod K mg (hidT s₁.heap H):=⟨hKb,nsK hns,⟨mb,nsK hb,hbb⟩,let ⟨mc,h1,h2⟩:=hlim; ⟨mc,nsK h1,h2⟩⟩
  have e0:Env0 P w K mg (hidT s₁.heap H) callerA [] s₁ H:=⟨rfl,hM,fun b o e=>zoM_ e,Nat.le_of_eq (zlo_ _ _),trivial,fun b hb=>absurd (show b∈([]:List Addr) from hb) (by simp),hok,.of_eq hg⟩
  refine codeAny_mono ((F _ hKb (nsK hns)).run callerA [] s₁ H ⟨[.ref a],[]⟩ [.ref a] [.ref a] _ _ hr e0 (hbind s₁ (.ref a)) (.cons rfl .nil) (hsp H hO hS)) fun r s' h=>?_
  cases r with
  | error e=>exact (hCX H e s' h).elim
  | ok fl =>
   cases fl with
   | next=>exact False.elim h
   | brk=>exact False.elim h
   | cont=>exact False.elim h
   | ret u =>
    obtain ⟨v,H',os,bare,un,hok',r',q⟩:=h
    have q':v=.bl true:=q
    subst q'
    obtain rfl:u=Value.bool true:=r'
    refine ⟨rfl,OldK.of_keep fun b o e=>?_,os,bare⟩
    cases q:H b with
    | none=>exact un.keep b o e q (by intro z; exact absurd (show b∈([]:List Addr) from z) (by simp)) (by simp)
    | some u =>
     rcases hO b with z | ⟨ob,xs,z⟩
     ·rw [q] at z; cases z
     ·have z2:=un.frzs b ob _ z
      obtain ⟨e1,_⟩:=hok b _ z
      obtain ⟨e2,_⟩:=hok' b _ z2
      rw [e] at e1; cases e1
      exact e2
 cases hk:K.lookup a with
 | some o =>
  have e:=KX a o hk
  rw [ha] at e
  cases e
  refine core (fun _=>none) (fun _=>.inl rfl) (.inr ⟨_,vs.toArray,_,hk,rfl,rfl,rfl,by rw [List.size_toArray,lenV]; exact hl,by simpa using rv⟩) (fun b u z=>by have z':(none:Option HO)=some u:=z; cases z') (fun b z=>absurd rfl z) fun z=>absurd rfl z
 | none =>
  refine core (fun b=>if b=a then some (.frz { cls:=.type "list",data:=.seq vs.toArray } (.lst (ns.map V.int))) else none) (fun b=>?_) (.inl (.inr ⟨{ cls:=.type "list",data:=.seq vs.toArray },if_pos rfl⟩)) (fun b u z=>?_) (fun b z=>?_) fun _=>hk
  ·by_cases hb:b=a
   ·exact .inr ⟨_,_,if_pos hb⟩
   ·exact .inl (if_neg hb)
  ·by_cases hb:b=a
   ·have z':=(if_pos hb).symm.trans z
    cases z'
    subst hb
    exact ⟨ha,by rw [List.length_map]; exact hl,vs,_,rv,ha⟩
   ·have z':=(if_neg hb).symm.trans z
    cases z'
  ·by_cases hb:b=a
   ·exact hb
   ·exact absurd (if_neg hb) z
end L2
namespace L2
open PySem PySem.Spec PyProof.Rows
end L2
namespace L2
open PySem PySem.Spec PyProof.Rows
noncomputable def inClass (s:Stmt) (j:Nat):Stmt:=match s with
 | .ClassDef _ _ _ body _ _ _ _ _ _ _=>body.getD j (.Pass ⟨0,0,0,0⟩)
 | _=>.Pass ⟨0,0,0,0⟩
noncomputable def defArgs (s:Stmt):Arguments:=match s with
 | .FunctionDef _ a _ _ _ _ _ _ _ _=>a
 | _=>{ posonlyargs:=[],args:=[],vararg:=none,kwonlyargs:=[],kw_defaults:=[],kwarg:=none,defaults:=[] }
noncomputable def defBody (s:Stmt):List Stmt:=match s with
 | .FunctionDef _ _ b _ _ _ _ _ _ _=>b
 | _=>[]
noncomputable def defScope (s:Stmt):Scope:=match s with
 | .FunctionDef _ _ _ _ _ _ sc _ _ _=>sc
 | _=>{ kind:=.function,names:=[],isGenerator:=false,isCoroutine:=false }
noncomputable abbrev CX0:CXT:=fun _ _ _ _ _ _=>False
noncomputable abbrev E0:XK:=fun _ _ _=>False
theorem pass0 {X:Cx}:Passes CX0 X E0:=fun _ _ _ _ _ _ _ h=>h.elim
structure Fun (K:PySem.W.Frag) (x qual:Str) (st:Stmt) (f:Addr) (fd:FuncData):Prop where
 ex:∃ (oc:Value) (od:Option Addr) (kV doc pm:Value) (an:Option Addr) (cdv ct:Value) (osl:Array (Option Value)),
  fd=PySem.W.fnOf x qual (defArgs st) (defBody st) (defScope st) .none kV doc pm an cdv ct∧K.lookup f=some ⟨oc,od,.func fd,osl⟩∧PySem.W.codeIn K cdv qual=true
 kp:PySem.W.keepIn K (.ref f)=true
section
variable {P:Program}{w:World}{K:PySem.W.Frag}{mg:Str→Option Value}{base:Heap}
theorem Fun.ok {x qual:Str}{st:Stmt}{f:Addr}{fd:FuncData}{N ps:List Str}{k:Nat}{sp:Sp}(F:Fun K x qual st f fd) (S:FnScope N ps (defScope st)) (len:∀ vs H Q E,sp vs H Q E→vs.length=ps.length)
  (hbody:∀ (cdv:Value) (A:Around) (outer:List Env) (s:Shared) (H:Hp) (vs:List V) (Q:VK) (E:XK),Room k (A.deeper (envOfC qual (defScope st) s.heap.objs.size f cdv))→sp vs H Q E →
   ∃ t,PSs (cxOf CX0 P w K mg base N qual (defScope st) f cdv A outer s H E).nox (defBody st) t∧t { nx:=fun _ H'=>Q .non H',rt:=Q } (start N vs) H):FnOk P w K mg base CX0 (k+1) f fd ps sp:=by
 obtain ⟨oc,od,kV,doc,pm,an,cdv,ct,osl,rfl,lk,hcd⟩:=F.ex
 refine fn_of lk hcd S len fun A outer s H vs Q E hr hsp=>?_
 obtain ⟨t,h,q⟩:=hbody cdv A outer s H vs Q E hr hsp
 exact ⟨t,h.nox,q⟩
theorem Fun.binds {x qual:Str}{st:Stmt}{f:Addr}{fd:FuncData}{ps:List Str}(F:Fun K x qual st f fd)
  (h:∀ (kV doc pm:Value) (an:Option Addr) (cdv ct:Value) (us:List Value),us.length=ps.length→bindArgs (PySem.W.fnOf x qual (defArgs st) (defBody st) (defScope st) .none kV doc pm an cdv ct) ⟨us,[]⟩=pure (ps.zip us)):Binds K fd ps []:=by
 obtain ⟨oc,od,kV,doc,pm,an,cdv,ct,osl,rfl,lk,hcd⟩:=F.ex
 exact .all (h kV doc pm an cdv ct)
theorem zbd_ {x qual:Str}{st:Stmt}{f:Addr}{oc:Value}{od an:Option Addr}{osl:Array (Option Value)}{kV doc pm cdv ct:Value}(l:K.lookup f=some ⟨oc,od,.func (PySem.W.fnOf x qual (defArgs st) (defBody st) (defScope st) .none kV doc pm an cdv ct),osl⟩)
  (c:PySem.W.codeIn K cdv qual=true) (k:PySem.W.keepIn K (.ref f)=true):Fun K x qual st f (PySem.W.fnOf x qual (defArgs st) (defBody st) (defScope st) .none kV doc pm an cdv ct):=⟨⟨oc,od,kV,doc,pm,an,cdv,ct,osl,rfl,l,c⟩,k⟩
end
section
variable {X:Cx}
end
noncomputable def Same (H H':Hp):Prop:=∀ b o,H b=some o→H' b=some o
theorem Same.refl (H:Hp):Same H H:=fun _ _ h=>h
theorem Same.trans {H H1 H2:Hp}(a:Same H H1) (b:Same H1 H2):Same H H2:=fun c o h=>b c o (a c o h)
theorem Same.free {H H':Hp}(e:Same H H') {l:Addr}(h:H' l=Option.none):H l=Option.none:=by
 cases q:H l with
 | none=>rfl
 | some o =>
  rw [e l o q] at h
  cases h
theorem Same.seq {K:PySem.W.Frag}{H H':Hp}{a:Addr}{xs:List V}(e:Same H H') (h:SqL K H a xs):SqL K H' a xs:=by
 rcases h with (h | ⟨o,h⟩) | h
 ·exact .inl (.inl (e _ _ h))
 ·exact .inl (.inr ⟨o,e _ _ h⟩)
 ·exact .inr h
end L2
namespace L2
open PySem PySem.Spec PyProof.Rows
noncomputable def Itp (n:Nat) (f:Nat→V):It:=⟨fun i _=>i<n,fun i H x H'=>H'=H∧x=f i,fun i _=>n≤i⟩
noncomputable def ownTups:List String:=["enumerate", "zip", "dict_itemiterator", "dict_reverseitemiterator", "odict_iterator", "itertools.zip_longest", "itertools.pairwise"]
theorem zio_ {P:Program}{w:World}{K:PySem.W.Frag}{tg:Expr}{it:Addr}{n:Nat}{f:Nat→V}{Pw:Nat→Value→Prop}{St:Nat→Heap→Prop}
  (W:∀ A:Around,A.handled=none→Walks P w A it [it] [it] n Pw St) (hv:∀ i v,i<n→Pw i v→RelV (f i) v)
  (ho:∀ i h,St i h→∃ o nm vs,h.get? it=some o∧o.cls=.type nm∧o.data=.fields vs∧ownTups.contains nm=false)
  (hself:∀ (A:Around) (i:Nat) (s:Shared) (Q:Value→Shared→Prop) (E:Value→Shared→Prop),St i s.heap→Q (.ref it) s→wpAny (model P w) A (pyIter (.ref it)) Q E s)
  (hkeep:∀ i h h',St i h→(∀ b∈[it],∀ o,h.get? b=some o→h'.get? b=some o)→St i h') :
  Turn P w K tg (Itp n f) [it] it (fun i h=>i≤n∧St i h) where
 mem:=by simp
 obj:=fun i h st b hb=>by
  have e:b=it:=by simpa using hb
  subst e
  obtain ⟨o,nm,vs,e,c,d,_⟩:=ho i h st.2
  exact ⟨o,e,fun v z=>by rw [d] at z; cases z⟩
 keep:=fun i h h' st k=>⟨st.1,hkeep i h h' st.2 k⟩
 item:=by
  intro X hP hw hK hc i pins s σ H E I hf st hg
  subst hP hw hK
  obtain ⟨f0,f1,f2,f3,f4,f5⟩:=hf it (by simp)
  have hi:i<n:=hg
  refine (W X.A (I.ok.hd hc)).item i s _ _ hi st.2 fun v h' tk hv' st' kk=>?_
  have I1:Inv X pins σ H { s with heap:=h',toks:=tk }:=I.turned (fun b o hb e=>kk b o (by simpa using hb) e) f0 f1 f3 f4 f5
  obtain ⟨o,nm,vs,e,c,d,hn⟩:=ho _ _ st'
  exact ⟨_,rfl,zpi_ (s:={ s with heap:=h',toks:=tk }) (n:=nm) e c d hn ⟨f i,H,I1,hv i v hi hv',⟨rfl,rfl⟩,⟨hi,st'⟩,fun b hb=>(hf b hb).1⟩⟩
 done:=by
  intro X hP hw hK hc i pins s σ H E I hf st hg
  subst hP hw hK
  obtain ⟨f0,f1,f2,f3,f4,f5⟩:=hf it (by simp)
  have hi:n≤i:=hg
  have e:i=n:=Nat.le_antisymm st.1 hi
  subst e
  exact (W X.A (I.ok.hd hc)).done s _ _ st.2 fun h' tk kk=>⟨rfl,I.turned (fun b o hb e=>kk b o (by simpa using hb) e) f0 f1 f3 f4 f5⟩
 self:=fun A i s Q E st h=>hself A i s Q E st.2 h
noncomputable def sgn (x:Str) (i:Nat):V:=.str ⟨#[x.cps.getD i 0]⟩
theorem zlv_ {P:Program}{w:World}{it:Addr}{x:Str}{t:Tok}(A:Around) (hA:A.handled=none):Walks P w A it [it] [it] x.cps.size (SignAt x) (fun i h=>h.IsStrIter it (strIterType x) x t i):=by
 cases ha:x.cps.all (·<128)
 ·have e:strIterType x = "str_iterator" := by simp [strIterType,ha]
  rw [e]; exact Walks.strWide hA it x t
 ·have e:strIterType x = "str_ascii_iterator" := by simp [strIterType,ha]
  rw [e]; exact Walks.strAscii hA it x t
theorem zgx_ {x:Str}{i:Nat}{v:Value}(h:SignAt x i v):RelV (sgn x i) v:=by
 obtain ⟨c,u,e,rfl⟩:=h
 refine ⟨u,?_⟩
 have:x.cps.getD i 0=c:=by simp [Array.getD_eq_getD_getElem?,e]
 rw [this]
theorem zgp_ (x:Str):ownTups.contains (strIterType x)=false:=by
 unfold strIterType; split<;>decide
theorem znk_ {P:Program}{w:World}{K:PySem.W.Frag}{tg:Expr}(it:Addr) (x:Str) (t:Tok):Turn P w K tg (Itp x.cps.size (sgn x)) [it] it (fun i h=>i≤x.cps.size∧h.IsStrIter it (strIterType x) x t i):=by
 refine zio_ (Pw:=SignAt x) (fun A hA=>zlv_ A hA) (fun i v _ h=>zgx_ h) (fun i h st=>?_) (fun A i s Q E st h=>?_) (fun i h h' st k=>?_)
 ·obtain ⟨o,e,c,d⟩:=st
  exact ⟨o,_,_,e,c,d,zgp_ x⟩
 ·cases ha:x.cps.all (·<128)
  ·have e:strIterType x = "str_iterator" := by simp [strIterType,ha]
   rw [e] at st; exact wpAny_pyIter_striter_wide st h
  ·have e:strIterType x = "str_ascii_iterator" := by simp [strIterType,ha]
   rw [e] at st; exact wpAny_pyIter_striter_ascii st h
 ·obtain ⟨o,e,r⟩:=st
  exact ⟨o,k it (by simp) o e,r⟩
section
variable {X:Cx}{tg:Expr}
end
end L2
namespace L2
open PySem PySem.Spec PyProof.Rows
theorem Inv.turnedL {X:Cx}{pins:List (Addr×Obj)}{σ:St}{H:Hp}{s:Shared}{h':Heap}{t':Nat}{ch:List Addr}(I:Inv X pins σ H s) (k:∀ b o,b∉ch→s.heap.get? b=some o→h'.get? b=some o)
  (hf:∀ b∈ch,FpOk X pins H b):Inv X pins σ H { s with heap:=h',toks:=t' }:=by
 have nit:∀ b u,H b=some u→b∉ch:=fun b u e z=>by rw [(hf b z).1] at e; cases e
 refine I.step (g':=s.gens) (d':=s.drawn) (ch:=ch) (fun b hb=>?_) (fun b o _ _ hc e _=>k b o hc e) (fun b o _ _ hc e _=>⟨o.slots,k b o hc e⟩) (fun _ _ _ _ n=>n)
  (fun b o hc e=>⟨o,k b o hc e⟩) (fun _ _ e=>e) (fun _ _ _ e=>e) (fun b ps e=>⟨#[],by rw [e]; simp⟩) (fun m hm=>?_) (fun b u e=>?_) I.bare
 ·obtain ⟨f0,f1,f2,f3,f4,f5⟩:=hf b hb
  exact ⟨f3,f1,f4,f5⟩
 ·obtain ⟨o,es,ep,ho,r⟩:=hm
  exact ⟨o,es,ep,k _ o (fun z=>(hf _ z).2.1 rfl) ho,r⟩
 ·refine (I.hok b u e).stay (fun c v hc q=>k c v ?_ q) (fun _ q=>q) fun _ _ q=>q
  rcases hc with z | z
  ·rw [z]; exact nit b u e
  ·exact nit c _ z
theorem zir_ {X:Cx}{pins:List (Addr×Obj)}{σ:St}{H:Hp}{s:Shared}{h1:Heap}{tk:Nat}{tk':Tok}{e it:Addr}{i:Nat}{x:Value}{y:V}{St:Heap→Prop}{elts:List Expr}{kk:Nat}{pos:Pos}{E:Value→Shared→Prop}
  (I:Inv X pins σ H s) (hf:∀ b∈[e,it],FpOk X pins H b) (he:e<s.heap.objs.size) (hit:it<s.heap.objs.size) (hei:e≠it) (heo:IsEnumOut h1 e it ((i:Int)+1) x s.heap.objs.size) (ry:RelV y x)
  (ht:h1.get? s.heap.objs.size=some { cls:=.type "tuple",data:=.seq #[.int i tk',x] }) (hz:h1.objs.size=s.heap.objs.size+1) (hk:∀ b o,b≠e→b≠it→s.heap.get? b=some o→h1.get? b=some o)
  (hSt:∀ h2,Heap.SameBut e h1 h2→St h2) :
  wpAny (model X.prog X.w) X.A (letOwnedTupleGo (.Tuple elts kk pos) (.ref e) (.ref s.heap.objs.size)) (fun _ s2=>∃ z H',Inv X pins σ H' s2∧RelV z (.ref s.heap.objs.size) ∧
   (∃ p,H p=none∧z=.ref p∧H'=upd H p (.tup [.int i,y]))∧(IsEnum s2.heap e it ((i+1:Nat):Int) x∧St s2.heap)∧∀ b∈[e,it],H' b=none) E { s with heap:=h1,toks:=tk }:=by
 refine wpAny_letOwnedTupleGo_enum heo fun h2 he2 hs2=>?_
 replace hs2:Heap.SameBut e h1 h2:=hs2
 have hp:H s.heap.objs.size=none:=I.hok.fresh (Nat.le_refl _)
 have hne:s.heap.objs.size≠e:=Nat.ne_of_gt he
 have hni:s.heap.objs.size≠it:=Nat.ne_of_gt hit
 have I1:Inv X pins σ (upd H s.heap.objs.size (.tup [.int i,y])) { s with heap:=s.heap.push { cls:=.type "tuple",data:=.seq #[.int i tk',x] },toks:=tk }:=by
  refine I.laid (fun b u q=>Heap.get?_push_of_some _ q) (Nat.le_refl _) ⟨?_,[.int i tk',x],.cons ⟨_,rfl⟩ (.cons ry .nil),⟨_,Heap.get?_push_size _ rfl,rfl,_,rfl⟩⟩
  show 2≤sizeLine
  decide
 have hf1:∀ b∈[e,it],FpOk X pins (upd H s.heap.objs.size (.tup [.int i,y])) b:=fun b hb=>by
  obtain ⟨f0,r⟩:=hf b hb
  refine ⟨?_,r⟩
  rw [zaT_ (by rcases List.mem_cons.mp hb with rfl | hb; exact hne.symm; rcases List.mem_cons.mp hb with rfl | hb; exact hni.symm; cases hb)]
  exact f0
 have I2:Inv X pins σ (upd H s.heap.objs.size (.tup [.int i,y])) { s with heap:=h2,toks:=tk }:=by
  refine Inv.turnedL (s:={ s with heap:=s.heap.push { cls:=.type "tuple",data:=.seq #[.int i tk',x] },toks:=tk }) (ch:=[e,it]) I1 (fun b o hb q=>?_) hf1
  have nbe:b≠e:=fun z=>hb (by simp [z])
  have nbi:b≠it:=fun z=>hb (by simp [z])
  refine (hs2.2 b nbe).trans ?_
  rcases Heap.get?_push_cases q with ⟨rfl,rfl⟩ | q'
  ·exact ht
  ·exact hk b o nbe nbi q'
 refine ⟨.ref s.heap.objs.size,_,I2,rfl,⟨s.heap.objs.size,hp,rfl,rfl⟩,⟨?_,hSt h2 hs2⟩,fun b hb=>(hf1 b hb).1⟩
 have:((i+1:Nat):Int)=(i:Int)+1:=by push_cast; rfl
 rw [this]; exact he2
noncomputable def Ite (K:PySem.W.Frag) (l:Addr):It :=
 ⟨fun i H=>∃ xs x,SqL K H l xs∧xs[i]?=some x,fun i H y H'=>∃ p x,(∀ xs,SqL K H l xs→xs[i]?=some x)∧H p=none∧y=.ref p∧H'=upd H p (.tup [.int i,x]),fun i H=>∃ xs,SqL K H l xs∧xs.length≤i⟩
theorem zkb_ {P:Program}{w:World}{K:PySem.W.Frag}{elts:List Expr}{kk:Nat}{pos:Pos}(e it l:Addr) (hei:e≠it) :
  Turn P w K (.Tuple elts kk pos) (Ite K l) [e,it] e (fun i h=>(∃ old,IsEnum h e it (i:Nat) old)∧h.IsListIter it l i) where
 mem:=by simp
 obj:=fun i h st b hb=>by
  obtain ⟨⟨old,he⟩,o,ho,c,d⟩:=st
  rcases List.mem_cons.mp hb with rfl | hb
  ·exact ⟨_,he,fun v z=>by cases z⟩
  ·have e:b=it:=by simpa using hb
   subst e
   exact ⟨o,ho,fun v z=>by rw [d] at z; cases z⟩
 keep:=fun i h h' st k=>by
  obtain ⟨⟨old,he⟩,hit⟩:=st
  exact ⟨⟨old,k e (by simp) _ he⟩,hit.at fun o q=>k it (by simp) o q⟩
 item:=by
  intro X hP hw hK hc i pins s σ H E I hf st hg
  subst hP hw hK
  obtain ⟨xs,x,hq,hx⟩:=hg
  obtain ⟨its,rv,p,hz⟩:=I.list hq
  obtain ⟨u,hu,ru⟩:=rv.get hx
  obtain ⟨⟨old,he⟩,hit⟩:=st
  refine wpAny_pyNext_enum_item he hit p.isList (x:=u) (by simpa using hu) hei fun h1 heo hit1 ht1 hz1 hk1=>?_
  refine ⟨_,rfl,?_⟩
  have hel:e<s.heap.objs.size:=Heap.lt_size he
  have hil:it<s.heap.objs.size:=by obtain ⟨o,ho,_⟩:=id hit; exact Heap.lt_size ho
  refine thn (zir_ (St:=fun h2=>h2.IsListIter it l (i+1)) I hf hel hil hei heo ru ht1 hz1 hk1 fun h2 hs=>hit1.extBut hs.extBut hei.symm) fun _ s2 q=>?_
  obtain ⟨z,H',I2,rz,⟨p,hp,rfl,rfl⟩,⟨he2,hit2⟩,fr⟩:=q
  exact ⟨.ref p,_,I2,rz,⟨p,x,fun ys hy=>by rw [I.list_inj hy hq]; exact hx,hp,rfl,rfl⟩,⟨⟨u,he2⟩,hit2⟩,fr⟩
 done:=by
  intro X hP hw hK hc i pins s σ H E I hf st hg
  subst hP hw hK
  obtain ⟨xs,hq,hx⟩:=hg
  obtain ⟨its,rv,p,hz⟩:=I.list hq
  obtain ⟨⟨old,he⟩,hit⟩:=st
  have hl:=rv.length
  obtain ⟨f0,f1,f2,f3,f4,f5⟩:=hf it (by simp)
  exact wpAny_pyNext_enum_end (I.ok.hd hc) he hit p.isList (by simp; omega) fun h' eb=>⟨rfl,I.turned (t':=s.toks) (fun b o hb e=>eb b o hb e) f0 f1 f3 f4 f5⟩
 self:=fun _ _ _ _ _ st h=>by
  obtain ⟨⟨old,he⟩,_⟩:=st
  exact wpAny_pyIter_enum he h
theorem zie_ {P:Program}{w:World}{it:Addr}{x:Str}{t:Tok}(A:Around) (hA:A.handled=none):Draws P w A it [it] x.cps.size (fun i v=>∃ c u,x.cps[i]?=some c∧v=.str ⟨#[c]⟩ u) (fun i h=>h.IsStrIter it (strIterType x) x t i):=by
 cases ha:x.cps.all (·<128)
 ·have e:strIterType x = "str_iterator" := by simp [strIterType,ha]
  rw [e]; exact Draws.strWide hA it x t
 ·have e:strIterType x = "str_ascii_iterator" := by simp [strIterType,ha]
  rw [e]; exact Draws.strAscii hA it x t
noncomputable def Ites (n:Nat) (f:Nat→V):It :=
 ⟨fun i _=>i<n,fun i H y H'=>∃ p,H p=none∧y=.ref p∧H'=upd H p (.tup [.int i,f i]),fun i _=>n≤i⟩
theorem zki_ {P:Program}{w:World}{K:PySem.W.Frag}{elts:List Expr}{kk:Nat}{pos:Pos}(e it:Addr) (x:Str) (t:Tok) (hei:e≠it) :
  Turn P w K (.Tuple elts kk pos) (Ites x.cps.size (sgn x)) [e,it] e (fun i h=>(∃ old,IsEnum h e it (i:Nat) old)∧i≤x.cps.size∧h.IsStrIter it (strIterType x) x t i) where
 mem:=by simp
 obj:=fun i h st b hb=>by
  obtain ⟨⟨old,he⟩,_,o,ho,c,d⟩:=st
  rcases List.mem_cons.mp hb with rfl | hb
  ·exact ⟨_,he,fun v z=>by cases z⟩
  ·have e:b=it:=by simpa using hb
   subst e
   exact ⟨o,ho,fun v z=>by rw [d] at z; cases z⟩
 keep:=fun i h h' st k=>by
  obtain ⟨⟨old,he⟩,hn,o,ho,r⟩:=st
  exact ⟨⟨old,k e (by simp) _ he⟩,hn,o,k it (by simp) o ho,r⟩
 item:=by
  intro X hP hw hK hc i pins s σ H E I hf st hg
  subst hP hw hK
  obtain ⟨⟨old,he⟩,hn,hit⟩:=st
  have hi:i<x.cps.size:=hg
  refine wpAny_pyNext_enum_itemD (zie_ X.A.in1 (I.ok.hd hc)) he hit hi hei (by simpa using hei) fun u h1 tk hP heo hit1 ht1 hz1 hk1=>?_
  refine ⟨_,rfl,?_⟩
  have hel:e<s.heap.objs.size:=Heap.lt_size he
  have hil:it<s.heap.objs.size:=by obtain ⟨o,ho,_⟩:=id hit; exact Heap.lt_size ho
  have ru:RelV (sgn x i) u:=zgx_ hP
  refine thn (zir_ (St:=fun h2=>h2.IsStrIter it (strIterType x) x t (i+1)) I hf hel hil hei heo ru ht1 hz1 hk1 fun h2 hs=>?_) fun _ s2 q=>?_
  ·obtain ⟨o,ho,r⟩:=hit1
   exact ⟨o,(hs.2 it hei.symm).trans ho,r⟩
  ·obtain ⟨z,H',I2,rz,⟨p,hp,rfl,rfl⟩,⟨he2,hit2⟩,fr⟩:=q
   exact ⟨.ref p,_,I2,rz,⟨p,hp,rfl,rfl⟩,⟨⟨u,he2⟩,hi,hit2⟩,fr⟩
 done:=by
  intro X hP hw hK hc i pins s σ H E I hf st hg
  subst hP hw hK
  obtain ⟨⟨old,he⟩,hn,hit⟩:=st
  have hi:x.cps.size≤i:=hg
  have ei:i=x.cps.size:=Nat.le_antisymm hn hi
  subst ei
  obtain ⟨f0,f1,f2,f3,f4,f5⟩:=hf it (by simp)
  exact wpAny_pyNext_enum_endD (zie_ X.A.in1 (I.ok.hd hc)) he hit fun h' eb=>⟨rfl,I.turned (t':=s.toks) (fun b o hb e=>eb b o hb e) f0 f1 f3 f4 f5⟩
 self:=fun _ _ _ _ _ st h=>by
  obtain ⟨⟨old,he⟩,_⟩:=st
  exact wpAny_pyIter_enum he h
section
variable {X:Cx}{elts:List Expr}{kk:Nat}{tpos:Pos}
end
end L2
namespace L2
open PySem PySem.Spec PyProof.Rows
section
variable {prog:Program}{w:World}{A:Around}{R:Result→Shared→Prop}{s:Shared}
theorem ziS_ {elt target iter:Expr}{ifs:List Expr}{scope:Scope}{pos:Pos}{it acc:Value}{env:Env}(I:Nat→Shared→Prop)
  (turn:∀ n s,I n s→wpAny (model prog w) A (pyNext it) (fun r s₁=>match r with
   | none=>R (.ok .next) s₁
   | some v=>wpAny (model prog w) A (letOwnedTupleGo target it v) (fun _ s₂=>wpAny (model prog w) A (assign target env v) (fun _ s₃ =>
     wpAny (model prog w) A (forIn ifs true fun c r=>if r=true then do let ok ← isTrue c env (eval c env); pure (ForInStep.yield ok) else pure (ForInStep.yield r)) (fun ok s₄ =>
      if ok=true then wpAny (model prog w) A (eval elt env) (fun x s₅ =>
       wpAny (model prog w) A (call (.builtin "list.append") [acc,x]) (fun _ s₆=>∃ m,m<n∧I m s₆) (fun _ _=>False) s₅) (fun _ _=>False) s₄
      else ∃ m,m<n∧I m s₄) (fun _ _=>False) s₃) (fun _ _=>False) s₂) (fun _ _=>False) s₁) (fun _ _=>False) s)
  (n:Nat) (h:I n s) :
  codeAny (model prog w) A (.compLoop (.ListComp elt [⟨target,iter,ifs,0⟩] scope pos) 0 it acc env) R s:=by
 refine codeAny_loop rfl I (fun n s hI=>?_) n h
 show wpAny _ A ((compTurn (.ListComp elt [⟨target,iter,ifs,0⟩] scope pos) 0 it acc env).onRaise (fun x=>do noteFrame x env; theTreesLotGoes x)) _ _ s
 refine wpAny_noted ?_
 rw [compTurn_list]
 refine wpAny_bind (wpAny_standAt (wpAny_bind (wpAny_mono (turn n s hI) (fun r s₁ h₁=>?_) fun _ _ h'=>h'.elim)))
 cases r with
 | none=>exact wpAny_pure h₁
 | some v =>
  refine wpAny_bind (wpAny_mono h₁ (fun _ s₂ h₂=>?_) fun _ _ h'=>h'.elim)
  refine wpAny_bind (wpAny_mono h₂ (fun _ s₃ h₃=>wpAny_bind (wpAny_mono h₃ (fun ok s₄ h₄=>?_) fun _ _ h'=>h'.elim)) fun _ _ h'=>h'.elim)
  cases ok with
  | false=>exact wpAny_pure ⟨rfl,h₄⟩
  | true =>
   exact wpAny_bind (wpAny_bind (wpAny_mono h₄ (fun x s₅ h₅=>wpAny_bind (wpAny_mono h₅ (fun _ s₆ h₆=>wpAny_pure (wpAny_pure ⟨rfl,h₆⟩)) fun _ _ h'=>h'.elim)) fun _ _ h'=>h'.elim))
end
noncomputable def closeL (cells:List (Str×Addr)):List (Str×NameKind)→List (Str×Addr)→Option (List (Str×Addr))
 | [],acc=>some acc
 | (n,k)::r,acc=>if (k == .free)=true then (match cells.lookup n with | some c=>closeL cells r ((n,c)::acc) | none=>none) else closeL cells r acc
theorem ze7_ {env:Env}{f:Str×NameKind→List (Str×Addr)→Sem (ForInStep (List (Str×Addr)))}
  (hf:∀ n k cs,f (n,k) cs=if (k == NameKind.free)=true then (do let c ← cellOf env n; pure (ForInStep.yield ((n,c)::cs))) else pure (ForInStep.yield cs)) :
  ∀ (names:List (Str×NameKind)) (acc cl:List (Str×Addr)),closeL env.cells names acc=some cl→(forIn names acc f:Sem (List (Str×Addr)))=pure cl
 | [],acc,cl,h=>by cases h; rfl
 | (n,k)::r,acc,cl,h=>by
  rw [List.forIn_cons,hf]
  unfold closeL at h
  by_cases hk:(k == NameKind.free)=true
  ·rw [if_pos hk] at h
   rw [if_pos hk]
   cases hc:env.cells.lookup n with
   | none=>rw [hc] at h; cases h
   | some c =>
    rw [hc] at h
    have e:cellOf env n=pure c:=by unfold cellOf; rw [hc]
    rw [e]
    simp only [pure_bind]
    exact ze7_ hf r _ cl h
  ·rw [if_neg hk] at h
   rw [if_neg hk]
   simp only [pure_bind]
   exact ze7_ hf r _ cl h
theorem zis_ {env:Env}{scope:Scope}{cl:List (Str×Addr)}(h:closeL env.cells scope.names []=some cl):closureFor scope env=pure cl:=by
 unfold closureFor
 dsimp only
 rw [ze7_ (env:=env) (fun n k cs=>rfl) scope.names [] cl h]
 rfl
theorem zdR_ {cells:List (Str×Addr)}:∀ (names:List (Str×NameKind)) (acc cl:List (Str×Addr)),closeL cells names acc=some cl→(∀ x c,acc.lookup x=some c→cells.lookup x=some c) →
  (∀ x c,cl.lookup x=some c→cells.lookup x=some c)
 | [],acc,cl,h,ha=>by cases h; exact ha
 | (n,k)::r,acc,cl,h,ha=>by
  unfold closeL at h
  by_cases hk:(k == NameKind.free)=true
  ·rw [if_pos hk] at h
   cases hc:cells.lookup n with
   | none=>rw [hc] at h; cases h
   | some c =>
    rw [hc] at h
    refine zdR_ r _ cl h fun x c' e=>?_
    rw [List.lookup_cons] at e
    cases hx:x == n with
    | true=>rw [hx] at e; cases e; rw [eq_of_beq hx]; exact hc
    | false=>rw [hx] at e; exact ha x c' e
  ·rw [if_neg hk] at h
   exact zdR_ r _ cl h ha
theorem zfw_ {cells:List (Str×Addr)}:∀ (names:List (Str×NameKind)) (acc cl:List (Str×Addr)),closeL cells names acc=some cl→∀ x,((x,NameKind.free)∈names∨∃ c,acc.lookup x=some c)→∃ c,cl.lookup x=some c
 | [],acc,cl,h,x,hx=>by
  cases h
  rcases hx with hx | hx
  ·cases hx
  ·exact hx
 | (n,k)::r,acc,cl,h,x,hx=>by
  unfold closeL at h
  by_cases hk:(k == NameKind.free)=true
  ·rw [if_pos hk] at h
   cases hc:cells.lookup n with
   | none=>rw [hc] at h; cases h
   | some c =>
    rw [hc] at h
    refine zfw_ r _ cl h x ?_
    rcases hx with hx | ⟨c',e⟩
    ·rcases List.mem_cons.mp hx with e | hx
     ·cases e; exact .inr ⟨c,by rw [List.lookup_cons,beq_self_eq_true]⟩
     ·exact .inl hx
    ·refine .inr ?_
     rw [List.lookup_cons]
     cases hxn:x == n with
     | true=>exact ⟨c,rfl⟩
     | false=>exact ⟨c',e⟩
  ·rw [if_neg hk] at h
   refine zfw_ r _ cl h x ?_
   rcases hx with hx | hx
   ·rcases List.mem_cons.mp hx with e | hx
    ·cases e; exact absurd rfl hk
    ·exact .inl hx
   ·exact .inr hx
theorem zfS_ {scope:Scope}{env:Env}{x:Str}{k:NameKind}(h:(relabel scope env).names.lookup x=some k) (hk:k=.cell∨k=.free) (hcell:∀ y∈scope.names,y.2≠.cell):(x,NameKind.free)∈scope.names:=by
 have m:=PySem.mem_of_lookup h
 obtain ⟨⟨n,k0⟩,hm,e⟩:=List.mem_map.mp m
 dsimp only at e
 split at e
 ·rename_i hc
  cases e
  have:k0=.free:=by
   simp only [Bool.and_eq_true,beq_iff_eq] at hc
   exact hc.1.1
  subst this; exact hm
 ·cases e
  rcases hk with rfl | rfl
  ·exact absurd rfl (hcell _ hm)
  ·exact hm
noncomputable def cxComp (X:Cx) (scope:Scope) (cl:List (Str×Addr)) (C:Addr) (N:List Str) (fp:List Addr) (s2:Shared) (H2:Hp):Cx where
 prog:=X.prog
 w:=X.w
 K:=X.K
 mg:=X.mg
 base:=X.base
 A:=X.A
 N:=N
 s₀:=s2
 H₀:=H2
 env:=compEnvC scope cl C X.env
 outer:=X.stack
 stack:=X.stack
 ex:=fp
 fn:=fun _=>false
 calm:=X.calm
 pn:=[]
 xe:=fun _ _=>False
structure CScope (X:Cx) (scope:Scope) (cl:List (Str×Addr)) (lv:List Str) (fr:List (Str×Nat)):Prop where
 clos:closeL X.env.cells scope.names []=some cl
 cell:∀ y∈scope.names,y.2≠.cell
 kind:scope.kind=.function
 names:∀ z∈scope.names,z.2=.local→scope.names.lookup z.1=some .local
 fr:∀ q∈fr,X.N[q.2]?=some q.1∧(q.1,NameKind.free)∈scope.names∧(X.env.kindOf q.1=some .cell∨X.env.kindOf q.1=some .free) ∧
  ((relabel scope X.env).names.lookup q.1=some .cell∨(relabel scope X.env).names.lookup q.1=some .free)
noncomputable def cN (lv:List Str) (fr:List (Str×Nat)):List Str:=lv++fr.map (·.1)
noncomputable def cS (lv:List Str) (fr:List (Str×Nat)) (σ:St):St:=lv.map (fun _=>none)++fr.map fun q=>(σ[q.2]?).join
theorem znc_ {X:Cx}{pins:List (Addr×Obj)}{σ:St}{H2:Hp}{s2:Shared}{scope:Scope}{cl:List (Str×Addr)}{lv:List Str}{fr:List (Str×Nat)}{fp:List Addr}{h4:Heap}{tk:Nat}{m:Str→Option Value}{n:Nat}
  (I:Inv X pins σ H2 s2) (S:CScope X scope cl lv fr) (hf:∀ b∈fp,FpOk X pins H2 b) (hlt:∀ b∈fp,b<s2.heap.objs.size) (hC:h4.Ns (s2.heap.objs.size+1) m) (hD:h4.get? s2.heap.objs.size=some { cls:=.type "list",data:=.seq #[] n })
  (hk:∀ b o,s2.heap.get? b=some o→h4.get? b=some o) :
  Inv (cxComp X scope cl (s2.heap.objs.size+1) (cN lv fr) fp s2 H2) [] (cS lv fr σ) (upd H2 s2.heap.objs.size (.lst [])) { s2 with heap:=h4,toks:=tk }:=by
 have hcl:=zdR_ scope.names [] cl S.clos (fun x c e=>by cases e)
 have hhas:=zfw_ scope.names [] cl S.clos
 have hDn:H2 s2.heap.objs.size=none:=I.hok.fresh (Nat.le_refl _)
 have hCn:H2 (s2.heap.objs.size+1)=none:=I.hok.fresh (Nat.le_succ _)
 have hCD:s2.heap.objs.size+1≠s2.heap.objs.size:=Nat.ne_of_gt (Nat.lt_succ_self _)
 have fpC:∀ b∈fp,(b∈X.ex∨X.s₀.heap.objs.size≤b):=fun b hb=>(hf b hb).2.2.2.1
 have cellLt:∀ x c,cl.lookup x=some c→c<s2.heap.objs.size:=fun x c e=>by
  obtain ⟨v,o,ho,_⟩:=I.cell x c (hcl x c e)
  exact Heap.lt_size ho
 refine ⟨⟨I.ok.mod,S.kind,I.ok.glob,I.ok.blt,Nat.le_succ _,fun x y c h1 h2=>I.ok.inj x y c (hcl x c h1) (hcl y c h2),fun x hx=>?_,fun x c hfn=>(by cases hfn),I.ok.hd,I.ok.frames,.inl rfl,fun b hb=>?_,I.bs,Nat.le_trans I.ok.bsz I.sz,fun b o e hb=>?_,fun b hb z=>?_,I.stack,I.stkFree⟩,
  rfl,I.bare,?_,⟨m,hC,fun i x v h1 h2 h3=>?_⟩,fun x c e=>?_,?_,fun x c e=>?_,fun p hp=>absurd (show p∈([]:List (Addr×Obj)) from hp) (by simp),?_,?_⟩
 ·-- has
  have hx':(relabel scope X.env).names.lookup x=some .cell∨(relabel scope X.env).names.lookup x=some .free:=hx
  have hm:(x,NameKind.free)∈scope.names:=hx'.elim (fun z=>zfS_ z (.inl rfl) S.cell) fun z=>zfS_ z (.inr rfl) S.cell
  exact hhas x (.inl hm)
 ·-- exf
  obtain ⟨f0,f1,f2,f3,f4,f5⟩:=hf b hb
  refine ⟨fun z=>?_,fun x c e=>f4 x c (hcl x c e)⟩
  have z':b=s2.heap.objs.size+1:=z
  have:=hlt b hb
  rw [z'] at this
  exact absurd this (Nat.not_lt.mpr (Nat.le_succ _))
 ·rcases fpC b hb with z | z
  ·exact I.ok.noex b o e z
  ·exact absurd (Nat.lt_of_lt_of_le (Nat.lt_of_lt_of_le (Heap.lt_size e) I.ok.bsz) z) (Nat.lt_irrefl _)
 ·obtain ⟨f0,f1,f2,_⟩:=hf b hb
  rcases List.mem_cons.mp (I.stkSub b z) with q | q
  ·exact f1 q
  ·exact f2 q
 ·exact Un.laid hk (Nat.le_refl _) hDn
 ·-- loc
  have h1':(lv++fr.map (·.1))[i]?=some x:=h1
  have h2':(lv.map (fun _=>none)++fr.map fun q=>(σ[q.2]?).join:St)[i]?=some (some v):=h2
  by_cases hi:i<lv.length
  ·rw [List.getElem?_append_left (by simpa using hi),List.getElem?_map] at h2'
   cases hq:lv[i]? with
   | none=>rw [hq] at h2'; cases h2'
   | some z=>rw [hq] at h2'; cases h2'
  ·rw [List.getElem?_append_right (by simpa using hi),List.getElem?_map] at h2'
   rw [List.getElem?_append_right (by omega),List.getElem?_map] at h1'
   simp only [List.length_map] at h2'
   cases hq:fr[i-lv.length]? with
   | none=>rw [hq] at h1'; cases h1'
   | some q =>
    rw [hq] at h1' h2'
    have e1:q.1=x:=Option.some.inj h1'
    have e2:(σ[q.2]?).join=some v:=Option.some.inj h2'
    have e3:σ[q.2]?=some (some v):=by
     cases hz:σ[q.2]? with
     | none=>rw [hz] at e2; cases e2
     | some z=>rw [hz] at e2; exact congrArg some e2
    obtain ⟨g1,g2,g3,g4⟩:=S.fr q (List.mem_of_getElem? hq)
    obtain ⟨m0,hn0,hl0⟩:=I.loc
    have vis:Vis X.env.scope q.1:=by
     rcases g3 with g3 | g3
     ·exact .inr (.inl g3)
     ·exact .inr (.inr g3)
    obtain ⟨u,r,l⟩:=hl0 q.2 q.1 v g1 e3 vis
    refine ⟨u,r,.inr ⟨?_,?_⟩⟩
    ·rw [← e1]; exact g4
    ·rcases l with ⟨lk,_⟩ | ⟨_,c,ec,ic⟩
     ·rcases g3 with g3 | g3<;>(rw [lk] at g3; cases g3)
     ·obtain ⟨c',ec'⟩:=hhas q.1 (.inl g2)
      have:c'=c:=by
       have:=hcl q.1 c' ec'
       rw [ec] at this; exact (Option.some.inj this).symm
      subst this
      obtain ⟨o,ho,hd⟩:=ic
      exact ⟨c',by rw [← e1]; exact ec',o,hk _ _ ho,hd⟩
 ·obtain ⟨v,o,ho,hd⟩:=I.cell x c (hcl x c e)
  exact ⟨v,o,hk _ _ ho,hd⟩
 ·show upd H2 _ _ (s2.heap.objs.size+1)=none
  rw [zaT_ hCD]; exact hCn
 ·have:=cellLt x c e
  rw [zaT_ (Nat.ne_of_lt this)]
  exact I.freeC x c (hcl x c e)
 ·exact I.hok.laid hk (Nat.le_refl _) ⟨Nat.zero_le _,[],n,.nil,hD⟩
 ·show (cS lv fr σ).length=(cN lv fr).length
  simp [cS,cN]
end L2
namespace L2
open PySem PySem.Spec PyProof.Rows
noncomputable def PIf (X:Cx) (ifs:List Expr) (t:TT):Prop :=
 ∀ (pins:List (Addr×Obj)) (s:Shared) (σ:St) (H:Hp) (Q:Bool→Hp→Prop),Inv X pins σ H s→t σ H Q →
  wpAny (model X.prog X.w) X.A (forIn ifs true fun c r=>if r=true then do let ok ← isTrue c X.env (eval c X.env); pure (ForInStep.yield ok) else pure (ForInStep.yield r)) (TP X pins σ Q) X.xe s
noncomputable def tTrue:TT:=fun _ H Q=>Q true H
theorem zdi_ {X:Cx}:PIf X [] tTrue:=fun pins s σ H Q I h=>wpAny_tests_nil ⟨H,I,h⟩
noncomputable def tCompR (J:It) (g:TG) (tt:TT) (te:TE) (σ0:St) (H1:Hp) (Q:VK):Prop :=
 ∀ D,H1 D=none→∃ W:Nat→Nat→List V→St→Hp→Prop,(∃ m,W 0 m [] σ0 (upd H1 D (.lst [])))∧∀ i m ys σ H,W i m ys σ H →
  (J.stop i H∧Q (.ref D) H)∨(J.go i H∧∃ N:List V→St→Hp→Prop,(∀ ys' σ' H',N ys' σ' H'→∃ m',m'<m∧W (i+1) m' ys' σ' H') ∧
   ∀ x H',J.yld i H x H'→g x σ H' fun σ2 H2=>tt σ2 H2 fun b H3=>if b=true then te σ2 H3 fun v H4=>H4 D=some (.lst ys)∧ys.length<sizeLine∧N (ys++[v]) σ2 (upd H4 D (.lst (ys++[v]))) else N ys σ2 H3)
section
variable {X:Cx}{scope:Scope}{cl:List (Str×Addr)}{lv:List Str}{fr:List (Str×Nat)}{elt tg iter:Expr}{ifs:List Expr}{pos:Pos}{g:TG}{tt:TT}{te:TE}
theorem zg4_ {pins:List (Addr×Obj)}{σ:St}{H2:Hp}{s2:Shared}{it:Addr}{fp:List Addr}{tn:Nat→Heap→Prop}{J:It}{Q:VK}{E:Value→Shared→Prop}{use:Option (Value→Sem Unit)}{Q':Value→Shared→Prop}
  (I:Inv X pins σ H2 s2) (S:CScope X scope cl lv fr) (T:Turn X.prog X.w X.K tg J fp it tn) (st:tn 0 s2.heap) (hf:∀ b∈fp,FpOk X pins H2 b) (hc:X.calm=true)
  (hg:∀ C fp s2 H2,PG (cxComp X scope cl C (cN lv fr) fp s2 H2) tg g) (ht:∀ C fp s2 H2,PIf (cxComp X scope cl C (cN lv fr) fp s2 H2) ifs tt) (he:∀ C fp s2 H2,PE (cxComp X scope cl C (cN lv fr) fp s2 H2) elt te)
  (hq:tCompR J g tt te (cS lv fr σ) H2 Q)
  (fin:∀ D C oC H' s',Inv X (pins++[(C,oC)]) σ H' s'→(∀ h:Heap,h.get? C=some oC→∃ m,h.Ns C m)→FpOk X pins H' C→Q (.ref D) H'→compPost (model X.prog X.w) X.A E use Q' (.ref D) C (.ok .next) s') :
  wpAny (model X.prog X.w) X.A (newList []) (fun acc s₃=>wpAny (model X.prog X.w) X.A (newFunctionEnv scope X.env.globals cl [] X.env.qual none .none (some X.env)) (fun cenv s₄ =>
   codeAny (model X.prog X.w) X.A (.compStart (.ListComp elt [⟨tg,iter,ifs,0⟩] scope pos) 0 (.ref it) acc { cenv with scope:=relabel scope X.env }) (compPost (model X.prog X.w) X.A E use Q' acc cenv.locals) s₄) E s₃) E s2:=by
 have hlt:∀ b∈fp,b<s2.heap.objs.size:=fun b hb=>by
  obtain ⟨o,ho,_⟩:=T.obj 0 _ st b hb
  exact Heap.lt_size ho
 refine wpAny_newList (wpAny_newFunctionEnv S.cell (by intro y hy; simp at hy) (fun h₁ hns₁ hsb₁=>?_) S.kind)
 dsimp only at hns₁ hsb₁ ⊢
 have hsz:(s2.heap.push { cls:=.type "list",data:=.seq ([]:List Value).toArray }).objs.size=s2.heap.objs.size+1:=Heap.size_push ..
 rw [hsz] at hns₁ hsb₁ ⊢
 have old:∀ b o,s2.heap.get? b=some o→h₁.get? b=some o:=fun b o e=>hsb₁.extBut b o (Nat.ne_of_lt (Nat.lt_succ_of_lt (Heap.lt_size e))) (Heap.get?_push_of_some _ (Heap.get?_push_of_some _ e))
 have hacc:h₁.get? s2.heap.objs.size=some { cls:=.type "list",data:=.seq #[] }:=hsb₁.extBut _ _ (Nat.ne_of_lt (Nat.lt_succ_self _)) (Heap.get?_push_of_some _ (Heap.get?_push_size _ rfl))
 have I4:Inv (cxComp X scope cl (s2.heap.objs.size+1) (cN lv fr) fp s2 H2) [] (cS lv fr σ) (upd H2 s2.heap.objs.size (.lst [])) { s2 with heap:=h₁,toks:=s2.toks+([]:List (Str×Value)).length } :=
  znc_ I S hf hlt hns₁ hacc old
 generalize hX':cxComp X scope cl (s2.heap.objs.size+1) (cN lv fr) fp s2 H2=X' at I4
 have eP:X'.prog=X.prog:=by rw [← hX']; rfl
 have ew:X'.w=X.w:=by rw [← hX']; rfl
 have eK:X'.K=X.K:=by rw [← hX']; rfl
 have eA:X'.A=X.A:=by rw [← hX']; rfl
 have ec:X'.calm=true:=by rw [← hX']; exact hc
 have ex:X'.xe=fun _ _=>False:=by rw [← hX']; rfl
 have een:X'.env=compEnvC scope cl (s2.heap.objs.size+1) X.env:=by rw [← hX']; rfl
 have hg':PG X' tg g:=hX' ▸ hg _ _ _ _
 have ht':PIf X' ifs tt:=hX' ▸ ht _ _ _ _
 have he':PE X' elt te:=hX' ▸ he _ _ _ _
 obtain ⟨W,⟨m0,w0⟩,turn⟩:=hq s2.heap.objs.size (I.hok.fresh (Nat.le_refl _))
 have st1:tn 0 h₁:=T.keep _ _ _ st fun b _ o e=>old b o e
 have f4:∀ b∈fp,FpOk X' [] (upd H2 s2.heap.objs.size (.lst [])) b:=fun b hb=>by
  obtain ⟨f0,f1,f2,f3,f4,f5⟩:=hf b hb
  have:=hlt b hb
  refine ⟨?_,?_,?_,.inl ?_,?_,?_⟩
  ·rw [zaT_ (Nat.ne_of_lt this)]; exact f0
  ·rw [een]; exact Nat.ne_of_lt (Nat.lt_succ_of_lt this)
  ·intro z
   have z':b∈frs X.stack:=by rw [← hX'] at z; exact z
   rcases List.mem_cons.mp (I.stkSub b z') with q | q
   ·exact f1 q
   ·exact f2 q
  ·rw [← hX']; exact hb
  ·intro x c e
   rw [een] at e
   exact f4 x c (zdR_ scope.names [] cl S.clos (fun x c e=>by cases e) x c e)
  ·intro p hp
   rw [← hX'] at hp
   exact absurd (show p∈([]:List (Addr×Obj)) from hp) (by simp)
 have stat:∀ {H':Hp},(∀ b∈fp,H' b=none)→∀ b∈fp,FpOk X' [] H' b:=fun hn b hb=>⟨hn b hb,(f4 b hb).2⟩
 have loop:∀ s₃:Shared,s₃={ s2 with heap:=h₁,toks:=s2.toks+([]:List (Str×Value)).length } →
   codeAny (model X.prog X.w) X.A (.compLoop (.ListComp elt [⟨tg,iter,ifs,0⟩] scope pos) 0 (.ref it) (.ref s2.heap.objs.size) (compEnvC scope cl (s2.heap.objs.size+1) X.env))
    (compPost (model X.prog X.w) X.A E use Q' (.ref s2.heap.objs.size) (s2.heap.objs.size+1)) s₃:=by
  rintro s₃ rfl
  refine ziS_ (fun n s'=>∃ i ys σ' H',Inv X' [] σ' H' s'∧tn i s'.heap∧(∀ b∈fp,H' b=none)∧W i n ys σ' H') ?_ m0 ⟨0,[],_,_,I4,st1,fun b hb=>(f4 b hb).1,w0⟩
  rintro n s3 ⟨i,ys,σ3,H3,I3,st3,fr3,w3⟩
  rcases turn i n ys σ3 H3 w3 with ⟨stop,qn⟩ | ⟨go,N,hN,step⟩
  ·have a0:=T.done X' eP ew eK ec i [] s3 σ3 H3 (fun _ _=>False) I3 (stat fr3) st3 stop
   rw [eA] at a0
   refine thn a0 fun r s4 ⟨hr,I4'⟩=>?_
   subst hr
   have un:Un (frs X.stack) fp H2 H3 s2.heap s4.heap:=by
    have:=I4'.base
    rw [← hX'] at this
    exact this
   have os:s4.os=s2.os:=by
    have:=I4'.os
    rw [← hX'] at this
    exact this
   have hok:HOk X.prog X.w H3 s4.heap:=by
    have:=I4'.hok
    rw [← hX'] at this
    exact this
   have J1:Inv X pins σ H3 s4:=I.call' os un hok I4'.bare fun b hb=>by
    obtain ⟨f0,f1,f2,f3,f4,f5⟩:=hf b hb
    exact ⟨f3,f1,f4,f5⟩
   obtain ⟨m,hn,_⟩:=I4'.loc
   have hn':s4.heap.Ns (s2.heap.objs.size+1) m:=by rw [een] at hn; exact hn
   have hCn:H3 (s2.heap.objs.size+1)=none:=by
    have:=I4'.free
    rw [een] at this; exact this
   have fC:FpOk X pins H3 (s2.heap.objs.size+1):=I.fpOk (Nat.le_succ _) hCn
   obtain ⟨oC,es,ep,hoC,hdC,rC⟩:=id hn'
   have J2:Inv X (pins++[(s2.heap.objs.size+1,oC)]) σ H3 s4:=J1.pins_of fun p hp=>by
    rcases List.mem_append.mp hp with hp | hp
    ·exact J1.pin p (List.mem_append_right _ hp)
    ·have e:p=(s2.heap.objs.size+1,oC):=by simpa using hp
     subst e
     exact ⟨hoC,hCn,fC.2.1,fC.2.2.1,fun v z=>by rw [hdC] at z; cases z⟩
   exact fin _ _ oC H3 s4 J2 (fun h e=>⟨m,oC,es,ep,e,hdC,rC⟩) fC qn
  ·have a0:=T.item X' eP ew eK ec i [] s3 σ3 H3 (fun _ _=>False) I3 (stat fr3) st3 go
   rw [eA] at a0
   refine thn a0 fun r s4 ⟨u,hr,h4⟩=>?_
   subst hr
   refine thn h4 fun _ s5 ⟨x,H5,I5,r5,y5,st5,fr5⟩=>?_
   have I5':=I5.pinned (stat fr5) (T.obj _ _ st5)
   have a1:=hg' _ s5 σ3 H5 x u _ I5' r5 (step x H5 y5)
   rw [eP,ew,eA,een,ex] at a1
   refine thn a1 fun _ s6 ⟨σ6,H6,I6,q6⟩=>?_
   have a2:=ht' _ s6 σ6 H6 _ I6 q6
   rw [eP,ew,eA,een,ex] at a2
   refine thn a2 fun ok s7 ⟨H7,I7,q7⟩=>?_
   have again:∀ {ys7:List V}{H7:Hp}{s7:Shared},Inv X' ([]++pinsAt fp s5.heap) σ6 H7 s7→N ys7 σ6 H7→∃ m,m<n∧∃ i ys σ' H',Inv X' [] σ' H' s7∧tn i s7.heap∧(∀ b∈fp,H' b=none)∧W i m ys σ' H':=fun {ys7 H7 s7} I7 n7=>by
    obtain ⟨m',hm,w7⟩:=hN ys7 σ6 H7 n7
    refine ⟨m',hm,i+1,ys7,σ6,H7,I7.unpinned,T.keep _ _ _ st5 fun b hb o e=>(I7.pin (b,o) (List.mem_append_right _ (List.mem_append_right _ (zed_ hb e)))).1,fun b hb=>?_,w7⟩
    obtain ⟨o,e,d⟩:=T.obj _ _ st5 b hb
    exact (I7.pin (b,o) (List.mem_append_right _ (List.mem_append_right _ (zed_ hb e)))).2.1
   cases ok with
   | false=>exact again I7 q7
   | true =>
    have a3:=he' _ s7 σ6 H7 _ I7 q7
    rw [eP,ew,eA,een,ex] at a3
    refine thn a3 fun y s8 ⟨v,H8,I8,r8,hD8,hl8,n8⟩=>?_
    have a4:=zcv_ (X:=X') _ s8 σ6 H8 (.ref s2.heap.objs.size) [v] (.ref s2.heap.objs.size) [y] (fun _ H9=>N (ys++[v]) σ6 H9) I8 rfl (.cons r8 .nil) ⟨_,_,_,rfl,rfl,hD8,hl8,n8⟩
    rw [eP,ew,eA,ex] at a4
    refine thn a4 fun _ s9 ⟨v9,H9,I9,_,n9⟩=>?_
    exact again I9 n9
 exact codeAny_compStart_list (loop _ rfl) (T.self _ 0 _ _ _ st1 (loop _ rfl))
noncomputable def tComp (lv:List Str) (fr:List (Str×Nat)) (wi:TI) (g:TG) (tt:TT) (te:TE):TE:=fun σ H Q=>wi σ H fun J H1=>tCompR J g tt te (cS lv fr σ) H1 Q
theorem zfl_ {wi:TI}(hc:X.calm=true) (S:CScope X scope cl lv fr) (hi:PI X tg iter wi)
  (hg:∀ C fp s2 H2,PG (cxComp X scope cl C (cN lv fr) fp s2 H2) tg g) (ht:∀ C fp s2 H2,PIf (cxComp X scope cl C (cN lv fr) fp s2 H2) ifs tt) (he:∀ C fp s2 H2,PE (cxComp X scope cl C (cN lv fr) fp s2 H2) elt te)
  (hs:∀ x,foldedSetIterable iter X.env x=pure x:=by intro _; rfl):PE X (.ListComp elt [⟨tg,iter,ifs,0⟩] scope pos) (tComp lv fr wi g tt te):=by
 intro pins s σ H Q I h
 rw [eval_ListComp]
 refine wpAny_comprehension_free (use:=none) rfl hs (zis_ S.clos) S.kind S.names ?_
 refine thn (hi pins s σ H _ I h) fun v s1 h1=>thn h1 fun itv s2 h2=>?_
 obtain ⟨it,fp,tn,J,H2,e,I2,T,st2,f2,q⟩:=h2
 subst e
 refine zg4_ I2 S T st2 f2 hc hg ht he q fun D C oC H' s' J1 hNs fC qD=>?_
 have hp:=J1.pin (C,oC) (List.mem_append_right _ (List.mem_append_right _ (List.mem_singleton.mpr rfl)))
 obtain ⟨m,hm⟩:=hNs s'.heap hp.1
 refine ⟨m,hm,fun h' hs'=>?_⟩
 exact ⟨.ref D,H',J1.unpinned.turned (t':=s'.toks) (fun b o hb e=>(hs'.2 b hb).trans e) fC.1 fC.2.1 fC.2.2.2.1 fC.2.2.2.2.1 fC.2.2.2.2.2,rfl,qD⟩
theorem zdQ_ {wi:TI}{j:Nat}{y:Str}{py spos:Pos}(hc:X.calm=true) (S:CScope X scope cl lv fr) (hi:PI X tg iter wi)
  (hg:∀ C fp s2 H2,PG (cxComp X scope cl C (cN lv fr) fp s2 H2) tg g) (ht:∀ C fp s2 H2,PIf (cxComp X scope cl C (cN lv fr) fp s2 H2) ifs tt) (he:∀ C fp s2 H2,PE (cxComp X scope cl C (cN lv fr) fp s2 H2) elt te)
  (hy:PG X (.Name y py) (gName j))
  (hsw:swapsWith (.ListComp elt [⟨tg,iter,ifs,0⟩] scope pos) (some (.Name y py)) spos.line X.env=pure true:=by rfl)
  (hs:∀ x,foldedSetIterable iter X.env x=pure x:=by intro _; rfl):PS X (.Assign [.Name y py] (.ListComp elt [⟨tg,iter,ifs,0⟩] scope pos) spos) (tAsg (tComp lv fr wi g tt te) (gName j)):=by
 intro pins s σ H D I h
 rw [exec_Assign_Name_used _ _ _ _ hsw]
 refine wpAny_bind (wpAny_standAt (wpAny_bind ?_))
 show wpAny _ X.A (do let _ ← comprehension (.ListComp elt [⟨tg,iter,ifs,0⟩] scope pos) scope X.env _ (newList []) false (eval iter X.env) (some (assign (.Name y py) X.env))) _ _ s
 refine wpAny_bind (wpAny_mono (wpAny_comprehension_free (use:=some (assign (.Name y py) X.env)) (Q:=fun _ s'=>SP X pins D .next s') rfl hs (zis_ S.clos) S.kind S.names ?_) (fun _ s' hq=>wpAny_pure (wpAny_pure hq)) fun _ _ e=>e)
 refine thn (hi pins s σ H _ I h) fun v s1 h1=>thn h1 fun itv s2 h2=>?_
 obtain ⟨it,fp,tn,J,H2,e,I2,T,st2,f2,q⟩:=h2
 subst e
 refine zg4_ I2 S T st2 f2 hc hg ht he q fun D' C oC H' s' J1 hNs fC qD=>?_
 show wpAny _ X.A (assign (.Name y py) X.env (.ref D')) _ _ _
 refine thn (hy _ s' σ H' (.ref D') (.ref D') _ J1 rfl qD) fun _ s3 ⟨σ3,H3,I3,q3⟩=>?_
 have hp:=I3.pin (C,oC) (List.mem_append_right _ (List.mem_append_right _ (List.mem_singleton.mpr rfl)))
 obtain ⟨m,hm⟩:=hNs s3.heap hp.1
 refine ⟨m,hm,fun h' hs'=>?_⟩
 have fC':FpOk X pins H3 C:=⟨hp.2.1,fC.2⟩
 exact ⟨σ3,H3,I3.unpinned.turned (t':=s3.toks) (fun b o hb e=>(hs'.2 b hb).trans e) fC'.1 fC'.2.1 fC'.2.2.2.1 fC'.2.2.2.2.1 fC'.2.2.2.2.2,q3⟩
end
end L2
namespace L2
open PySem PySem.Spec PyProof.Rows
noncomputable abbrev tx (l:List Nat):V:=.str ⟨l.toArray⟩
noncomputable def br (b:Bool) (A B:Prop):Prop:=(b=true→A)∧(b=false→B)
theorem zko_ (a b:Str):a++b=⟨(a.cps.toList++b.cps.toList).toArray⟩:=by
 cases a; cases b
 show Str.mk (_++_)=_
 simp
theorem zbN_ (a:Str):a=⟨a.cps.toList.toArray⟩:=by cases a; simp
noncomputable def cutL (l:List Nat) (lo hi:Option Int):List Nat:=(l.drop (HT.sIx l.length 0 lo)).take (HT.sIx l.length l.length hi-HT.sIx l.length 0 lo)
theorem zfk_ (lo hi:Option Int) (n:Nat):Builtin.Str.strSliceIndices lo hi 1 n=sliceRange ((HT.sIx n 0 lo:Nat):Int) ((HT.sIx n n hi:Nat):Int) 1:=by
 unfold Builtin.Str.strSliceIndices
 simp only [show (1:Int) > 0 by decide,if_true]
 congr 1
 ·cases lo with
  | none=>simp [HT.sIx]
  | some i =>
   simp only [HT.sIx]
   by_cases h:i<0
   ·simp only [h,if_true]<;>omega
   ·simp only [h,if_false]<;>omega
 ·cases hi with
  | none=>simp [HT.sIx]
  | some i =>
   simp only [HT.sIx]
   by_cases h:i<0
   ·simp only [h,if_true]<;>omega
   ·simp only [h,if_false]<;>omega
theorem zi3_ (x:Str) (lo hi:Option Int):(Builtin.Str.strSliceIndices lo hi 1 x.length).filterMap (x.cps[·]?)=cutL x.cps.toList lo hi:=by
 rw [zfk_,sliceRange_one,pick_run]
 unfold cutL Str.length
 simp only [Array.length_toList]
theorem zf0_ (l:List Nat) (lo hi:Option Int):(cutL l lo hi).length≤l.length:=by
 unfold cutL
 rw [List.length_take,List.length_drop]
 omega
theorem zk8_ {l:List Nat}{lo hi:Option Int}(h:(cutL l lo hi).length=l.length):cutL l lo hi=l:=by
 unfold cutL at h ⊢
 rw [List.length_take,List.length_drop] at h
 have h1:HT.sIx l.length l.length hi≤l.length:=HT.sIx_le _ _ (Nat.le_refl _) _
 by_cases hl:l.length=0
 ·have:l=[]:=List.length_eq_zero_iff.mp hl
  subst this
  simp
 ·have h2:HT.sIx l.length 0 lo=0:=by omega
  rw [h2,List.drop_zero,List.take_of_length_le]
  omega
section
variable {X:Cx}
noncomputable def rSlS:V→Option Int→Option Int→Hp→VK→Prop:=fun x lo hi H Q=>match x with | .str z=>z.length≤sizeLine∧Q (tx (cutL z.cps.toList lo hi)) H | _=>False
theorem zfc_ {v:Value}{o:Option Int}(p:IsPart v o):∃ l:Option (Int×Tok),v=partValue l∧l.map (·.1)=o:=by
 cases p with
 | none=>exact ⟨none,rfl,rfl⟩
 | int i t=>exact ⟨some (i,t),rfl,rfl⟩
theorem zp0_:SlR X rSlS:=by
 intro pins s σ H x v vl vu lo hi sl Q I rx hs pl pu h
 cases x with
 | str z =>
  obtain ⟨hz,q⟩:=h
  obtain ⟨t,rfl⟩:=rx
  obtain ⟨l,rfl,rfl⟩:=zfc_ pl
  obtain ⟨u,rfl,rfl⟩:=zfc_ pu
  refine ⟨"str",_,F.slot_str_getitem.lookup,typeIs_str _ _ _,?_⟩
  refine wpAny_getItem_str_slice (l:=l) (u:=u) (st:=none) hs rfl ?_
  unfold sliceMade
  have e:slicePicked z l u none=Builtin.Str.strSliceIndices (l.map (·.1)) (u.map (·.1)) 1 z.length:=rfl
  rw [e]
  have hlen:(Builtin.Str.strSliceIndices (l.map (·.1)) (u.map (·.1)) 1 z.length).length=(cutL z.cps.toList (l.map (·.1)) (u.map (·.1))).length:=by
   rw [zfk_,sliceRange_one,List.length_map,List.length_range]
   unfold cutL
   rw [List.length_take,List.length_drop]
   have h1:HT.sIx z.length z.length (u.map (·.1))≤z.length:=HT.sIx_le _ _ (Nat.le_refl _) _
   have h2:z.cps.toList.length=z.length:=by simp [Str.length]
   rw [h2]
   omega
  split
  ·rename_i hc
   have hc':(cutL z.cps.toList (l.map (·.1)) (u.map (·.1))).length=z.cps.toList.length:=by
    rw [← hlen]
    simpa [Str.length] using hc
   rw [zk8_ hc'] at q
   have q':Q (.str z) H:=by rw [zbN_ z]; exact q
   exact ⟨.str z,H,I,⟨_,rfl⟩,q'⟩
  ·rw [zi3_]
   have h3:=zf0_ z.cps.toList (l.map (·.1)) (u.map (·.1))
   have h2:z.cps.toList.length=z.length:=by simp [Str.length]
   refine ⟨?_,tx (cutL z.cps.toList (l.map (·.1)) (u.map (·.1))),H,I.tok _,⟨_,rfl⟩,q⟩
   show (cutL z.cps.toList (l.map (·.1)) (u.map (·.1))).toArray.size≤sizeLine
   rw [List.size_toArray]
   exact Nat.le_trans h3 (by rw [h2]; exact hz)
 | _=>exact h.elim
end
end L2
namespace L2
open PySem PySem.Spec PyProof.Rows
noncomputable def mVar (i:Nat):TE:=fun σ H Q=>match σ[i]? with | some (some v)=>Q v H | _=>False
section
variable {X:Cx}{a b c:Expr}{ta tb tc:TE}{pos:Pos}
theorem za_ (i:Nat) {x:Str}{pos:Pos}(hN:X.N[i]?=some x:=by rfl) (hv:Vis X.env.scope x:=by first | exact Or.inl rfl | exact Or.inr (Or.inl rfl) | exact Or.inr (Or.inr rfl)) (hd:(x == ("__debug__" : Str))=false:=by decide)
  (hcd:(x == ("__classdict__" : Str))=false:=by decide):PE X (.Name x pos) (mVar i):=by
 intro pins s σ H Q I h
 unfold mVar at h
 cases e:σ[i]? with
 | none=>rw [e] at h; exact h.elim
 | some o =>
  rw [e] at h
  cases o with
  | none=>exact h.elim
  | some v=>exact zqm_ hN hv hd hcd pins s σ H Q I ⟨v,e,h⟩
theorem zdA_ {x:Str}{l:List Nat}{j pos} (h:x=⟨l.toArray⟩:=by rfl):PE X (.Constant (.str x) j pos) (tC (tx l)):=h ▸ zpU_
noncomputable def mAdd:R2:=fun x y H Q=>match x,y with
 | .int i,.int j=>Q (.int (i+j)) H
 | .str a,.str b=>a.cps.toList.length+b.cps.toList.length≤sizeLine∧Q (tx (a.cps.toList++b.cps.toList)) H
 | .ref a,.ref b=>∃ xs zs,H a=some (.lst xs)∧H b=some (.lst zs)∧xs.length+zs.length≤sizeLine∧∀ p,H p=none→Q (.ref p) (upd H p (.lst (xs++zs)))
 | _,_=>False
theorem zas_:OpR X (binaryOp .Add) mAdd:=by
 intro pins s σ H x y v u Q I rx ry h
 cases x<;>cases y<;>first
  | exact h.elim
  | exact zqh_ pins s σ H _ _ v u Q I rx ry ⟨_,_,rfl,rfl,h⟩
  | exact zi0_ pins s σ H _ _ v u Q I rx ry ⟨_,_,rfl,rfl,by simpa [Str.length] using h.1,by rw [zko_]; exact h.2⟩
  | (obtain ⟨xs,zs,h1,h2,h3,h4⟩:=h; exact zqg_ pins s σ H _ _ v u Q I rx ry ⟨_,_,xs,zs,rfl,rfl,h1,h2,h3,h4⟩)
noncomputable def mI (C:Int→Int→Prop) (g:Int→Int→V):R2:=fun x y H Q=>match x,y with | .int i,.int j=>C i j∧Q (g i j) H | _,_=>False
noncomputable def mI0 (g:Int→Int→V):R2:=fun x y H Q=>match x,y with | .int i,.int j=>Q (g i j) H | _,_=>False
theorem opM {f:Value→Value→Sem Value}{C:Int→Int→Prop}{g:Int→Int→V}(h:OpR X f (rI C g)):OpR X f (mI C g):=by
 intro pins s σ H x y v u Q I rx ry q
 cases x<;>cases y<;>first | exact q.elim | exact h pins s σ H _ _ v u Q I rx ry ⟨_,_,rfl,rfl,q.1,q.2⟩
theorem opM0 {f:Value→Value→Sem Value}{g:Int→Int→V}(h:OpR X f (rI0 g)):OpR X f (mI0 g):=by
 intro pins s σ H x y v u Q I rx ry q
 cases x<;>cases y<;>first | exact q.elim | exact h pins s σ H _ _ v u Q I rx ry ⟨_,_,rfl,rfl,q⟩
noncomputable abbrev mSub:R2:=mI0 fun i j=>.int (i-j)
noncomputable abbrev mMod:R2:=mI (fun _ j=>0<j) fun i j=>.int (i % j)
theorem zdF_:OpR X (binaryOp .Sub) mSub:=opM0 zpY_
theorem zbb_:OpR X (binaryOp .Mod) mMod:=opM zql_
noncomputable def mEqB (x y:V):Option Bool:=match x,y with
 | .int i,.int j=>some (decide (i=j))
 | .str a,.str b=>some (decide (a.cps.toList=b.cps.toList))
 | .bl a,.bl b=>some (decide (a=b))
 | .non,.non=>some true
 | .non,.int _=>some false | .int _,.non=>some false | .non,.bl _=>some false | .bl _,.non=>some false | .non,.str _=>some false | .str _,.non=>some false
 | .int _,.str _=>some false | .str _,.int _=>some false | .bl _,.str _=>some false | .str _,.bl _=>some false
 | _,_=>none
theorem zi8_ {x y:V}{b:Bool}(h:mEqB x y=some b):scal x y=true∧decide (x=y)=b:=by
 cases x<;>cases y<;>first
  | (simp [mEqB] at h; done)
  | (refine ⟨rfl,?_⟩; have h':=Option.some.inj h; rw [← h']; first | rfl | (simp; done))
  | (rename_i a b'
     refine ⟨rfl,?_⟩
     have h':=Option.some.inj h
     rw [← h',decide_eq_decide]
     constructor
     ·intro e; cases e; rfl
     ·intro e; rw [zbN_ a,zbN_ b',e])
noncomputable def mEq:R2:=fun x y H Q=>match mEqB x y with | some b=>Q (.bl b) H | none=>False
noncomputable def mNe:R2:=fun x y H Q=>match mEqB x y with | some b=>Q (.bl (!b)) H | none=>False
theorem zqz_:OpR X (compareOp .Eq) mEq:=by
 intro pins s σ H x y v u Q I rx ry h
 unfold mEq at h
 cases e:mEqB x y with
 | none=>rw [e] at h; exact h.elim
 | some b =>
  rw [e] at h
  obtain ⟨h1,h2⟩:=zi8_ e
  exact op_eq pins s σ H x y v u Q I rx ry ⟨h1,by rw [h2]; exact h⟩
theorem zqe_:OpR X (compareOp .NotEq) mNe:=by
 intro pins s σ H x y v u Q I rx ry h
 unfold mNe at h
 cases e:mEqB x y with
 | none=>rw [e] at h; exact h.elim
 | some b =>
  rw [e] at h
  obtain ⟨h1,h2⟩:=zi8_ e
  exact op_ne pins s σ H x y v u Q I rx ry ⟨h1,by rw [h2]; exact h⟩
noncomputable abbrev mGt:R2:=mI0 fun i j=>.bl (decide (j<i))
noncomputable abbrev mGe:R2:=mI0 fun i j=>.bl (decide (j≤i))
theorem zpy_:OpR X (compareOp .Gt) mGt:=opM0 op_gt
theorem zpD_:OpR X (compareOp .GtE) mGe:=opM0 op_ge
noncomputable def mIsB (x y:V):Option Bool:=match y with
 | .non=>some (decide (x=.non))
 | .bl b=>(match x with | .bl a=>some (decide (a=b)) | _=>none)
 | _=>none
noncomputable def mIs:R2:=fun x y H Q=>match mIsB x y with | some b=>Q (.bl b) H | none=>False
noncomputable def mIsNot:R2:=fun x y H Q=>match mIsB x y with | some b=>Q (.bl (!b)) H | none=>False
theorem zm9_ {M:Model}{A:Around}{E:Value→Shared→Prop}{s:Shared}{a b:Bool}{Q:Value→Shared→Prop}(h:Q (.bool (decide (a=b))) s):wpAny M A (compareOp .Is (.bool a) (.bool b)) Q E s:=by
 cases a<;>cases b<;>exact wpAny_pure h
theorem ziI_ {M:Model}{A:Around}{E:Value→Shared→Prop}{s:Shared}{a b:Bool}{Q:Value→Shared→Prop}(h:Q (.bool (!decide (a=b))) s):wpAny M A (compareOp .IsNot (.bool a) (.bool b)) Q E s:=by
 cases a<;>cases b<;>exact wpAny_pure h
theorem zqB_:OpR X (compareOp .Is) mIs:=by
 intro pins s σ H x y v u Q I rx ry h
 unfold mIs mIsB at h
 cases y with
 | non=>exact zpt_ pins s σ H x _ v u Q I rx ry ⟨rfl,h⟩
 | bl b =>
  cases x with
  | bl a=>cases rx; cases ry; exact zm9_ ⟨.bl _,H,I,rfl,h⟩
  | _=>exact h.elim
 | _=>exact h.elim
theorem zlB_:OpR X (compareOp .IsNot) mIsNot:=by
 intro pins s σ H x y v u Q I rx ry h
 unfold mIsNot mIsB at h
 cases y with
 | non=>exact zoF_ pins s σ H x _ v u Q I rx ry ⟨rfl,h⟩
 | bl b =>
  cases x with
  | bl a=>cases rx; cases ry; exact ziI_ ⟨.bl _,H,I,rfl,h⟩
  | _=>exact h.elim
 | _=>exact h.elim
noncomputable def inS (l:List Nat) (t:List Nat):Bool:=match l with | [c]=>decide (c∈t) | _=>!(Builtin.Str.occurrences ⟨t.toArray⟩ ⟨l.toArray⟩ 0 t.length 1).isEmpty
theorem zoI_ (a b:Str):(!(Builtin.Str.occurrences b a 0 b.length 1).isEmpty)=inS a.cps.toList b.cps.toList:=by
 have e:b.length=b.cps.toList.length:=by simp [Str.length]
 unfold inS
 split
 ·rename_i c hc
  have ea:a=⟨#[c]⟩:=by rw [zbN_ a,hc]
  rw [ea]
  exact StrLaws.found_one b c
 ·rw [← zbN_,← zbN_,e]
noncomputable def mIn (K:PySem.W.Frag) (neg:Bool):R2:=fun x y H Q=>match y with
 | .str b=>(match x with | .str a=>Q (.bl (if neg then !inS a.cps.toList b.cps.toList else inS a.cps.toList b.cps.toList)) H | _=>False)
 | .ref p=>∃ xs,(SqL K H p xs∨SqT K H p xs)∧flatV x=true∧xs.all flatV=true∧Q (.bl (if neg then !inV x xs else inV x xs)) H
 | _=>False
theorem zp5_:OpR X (compareOp .In) (mIn X.K false):=by
 intro pins s σ H x y v u Q I rx ry h
 unfold mIn at h
 cases y with
 | str b =>
  cases x with
  | str a=>exact zld_ pins s σ H _ _ v u Q I rx ry ⟨_,_,rfl,rfl,by rw [zoI_]; exact h⟩
  | _=>exact h.elim
 | ref p =>
  obtain ⟨xs,h1,h2,h3,h4⟩:=h
  exact zkY_ pins s σ H _ _ v u Q I rx ry ⟨_,xs,rfl,h1,h2,h3,h4⟩
 | _=>exact h.elim
noncomputable def mTest (t:TE):TT:=fun σ H Q=>t σ H fun x H'=>match x with | .bl k=>Q k H' | _=>False
noncomputable def mAndV (ta tb:TE):TE:=fun σ H Q=>ta σ H fun x H1=>match x with | .bl c=>br c (tb σ H1 Q) (Q (.bl false) H1) | _=>False
noncomputable def mOr (t u:TT):TT:=fun σ H Q=>t σ H fun c H1=>br c (Q true H1) (u σ H1 Q)
variable {rest:List Expr}{tA tB':TT}
theorem zl6_ (ha:PE X a ta) (hb:PE X (.BoolOp .And (b::rest) pos) tb):PE X (.BoolOp .And (a::b::rest) pos) (mAndV ta tb):=by
 intro pins s σ H Q I h
 refine BoolOp_and (thn (ha pins s σ H _ I h) fun v s1 ⟨x,H1,I1,r1,q1⟩=>?_)
 cases x with
 | bl c =>
  cases r1
  refine wpAny_truthy_bool ?_
  cases c with
  | true=>exact hb pins s1 σ H1 Q I1 (q1.1 rfl)
  | false=>exact ⟨.bl false,H1,I1,rfl,q1.2 rfl⟩
 | _=>exact q1.elim
theorem zpH_ (ha:PT X a tA) (hb:PW X (.BoolOp .Or (b::rest) pos) tB'):PW X (.BoolOp .Or (a::b::rest) pos) (mOr tA tB'):=by
 intro wh pins s σ H Q I h
 refine isTrue_or (thn (ha pins s σ H _ I h) fun c s1 ⟨H1,I1,q1⟩=>?_)
 cases c with
 | true=>exact ⟨H1,I1,q1.1 rfl⟩
 | false=>exact hb wh pins s1 σ H1 Q I1 (q1.2 rfl)
theorem zik_ {e:Expr}{t:TE}(h:PE X e t) (he:∀ whole,isTrue e X.env whole=(do let v ← whole; standAt e.pos; holding [v] (truthy v)):=by intro _; rfl):PT X e (mTest t):=by
 intro pins s σ H Q I hw
 refine isTrue_plain (thn (h pins s σ H _ I hw) fun v s1 ⟨x,H1,I1,r1,q1⟩=>?_) (he _)
 cases x with
 | bl c=>cases r1; exact wpAny_truthy_bool ⟨H1,I1,q1⟩
 | _=>exact q1.elim
theorem zc4_ {op:CmpOp}{r:R2}(ho:OpR X (compareOp op) r) (ha:PE X a ta) (hb:PE X b tb) (hm:behindInMarks op b=false:=by first | exact nobehind _ (by decide) (by decide) | rfl):PT X (.Compare a [op] [b] pos) (mTest (tOp r ta tb)):=by
 intro pins s σ H Q I hw
 refine wpAny_isTrue_Compare1 (binT ha hb I hw fun v u s2 x y H2 I2 rx ry q=>?_) hm
 refine thn (ho pins s2 σ H2 x y v u _ I2 rx ry q) fun c s3 ⟨z,H3,I3,r3,q3⟩=>?_
 cases z with
 | bl k=>cases r3; exact wpAny_truthy_bool ⟨H3,I3,q3⟩
 | _=>exact q3.elim
theorem zlW_ {op:CmpOp}{r:R2}(ho:OpR X (compareOp op) r) (ha:PE X a ta) (hb:PE X b tb) (hm:behindInMarks op b=false:=by first | exact nobehind _ (by decide) (by decide) | rfl):PE X (.Compare a [op] [b] pos) (tOp r ta tb):=zo0_ ho ha hb hm
noncomputable def mIf (t:TT) (ta tb:TE):TE:=fun σ H Q=>t σ H fun c H1=>br c (ta σ H1 Q) (tb σ H1 Q)
theorem zqb_ {c:Expr}(hc:PT X c tA) (ha:PE X a ta) (hb:PE X b tb):PE X (.IfExp c a b pos) (mIf tA ta tb):=by
 intro pins s σ H Q I h
 refine wpAny_IfExp (thn (hc pins s σ H _ I h) fun d s1 ⟨H1,I1,q1⟩=>?_)
 cases d with
 | true=>exact ha pins s1 σ H1 Q I1 (q1.1 rfl)
 | false=>exact hb pins s1 σ H1 Q I1 (q1.2 rfl)
noncomputable def mIfS (c:TT) (t u:TS):TS:=fun D σ H=>c σ H fun b H1=>br b (t D σ H1) (u D σ H1)
theorem zeh_ {c:Expr}{a b:List Stmt}{tc:TT}{t u:TS}(hc:PT X c tc) (ha:PSs X a t) (hb:PSs X b u):PS X (.If c a b pos) (mIfS tc t u):=by
 intro pins s σ H D I h
 refine wpAny_If (thn (hc pins s σ H _ I h) fun d s1 ⟨H1,I1,q1⟩=>?_)
 cases d with
 | true=>exact ha pins s1 σ H1 D I1 (q1.1 rfl)
 | false=>exact hb pins s1 σ H1 D I1 (q1.2 rfl)
end
end L2
namespace L2
open PySem PySem.Spec PyProof.Rows
section
variable {X:Cx}{a b c e o:Expr}{es:List Expr}{ta tb tc:TE}{t:TA}{pos:Pos}
noncomputable def mIx (K:PySem.W.Frag):R2:=fun x y H Q=>match y with
 | .int i=>(match x with
  | .ref p=>∃ xs,(SqL K H p xs∨SqT K H p xs)∧(match atI xs i with | some v=>Q v H | none=>False)
  | .str z=>z.cps.toList.length≤sizeLine∧(match atI z.cps.toList i with | some c=>Q (tx [c]) H | none=>False)
  | _=>False)
 | _=>False
theorem ix_M:IxR X (mIx X.K):=by
 intro value slice pins s σ H x y v u Q I rx ry h hs0
 unfold mIx at h
 cases y with
 | int i =>
  cases x with
  | ref p =>
   obtain ⟨xs,hs,h⟩:=h
   cases ev:atI xs i with
   | none=>rw [ev] at h; exact h.elim
   | some w' =>
    rw [ev] at h
    rcases hs with hs | hs
    ·exact zpa_ value slice pins s σ H _ _ v u Q I rx ry ⟨p,xs,i,w',rfl,rfl,hs,ev,h⟩ hs0
    ·exact zpz_ value slice pins s σ H _ _ v u Q I rx ry ⟨p,xs,i,w',rfl,rfl,hs,ev,h⟩ hs0
  | str z =>
   obtain ⟨hz,h⟩:=h
   cases ev:atI z.cps.toList i with
   | none=>rw [ev] at h; exact h.elim
   | some w' =>
    rw [ev] at h
    exact zpQ_ value slice pins s σ H _ _ v u Q I rx ry ⟨z,i,w',rfl,rfl,by simpa [Str.length] using hz,ev,h⟩ hs0
  | _=>exact h.elim
 | _=>exact h.elim
noncomputable def mSl (K:PySem.W.Frag):V→Option Int→Option Int→Hp→VK→Prop:=fun x lo hi H Q=>match x with
 | .str z=>z.cps.toList.length≤sizeLine∧Q (tx (cutL z.cps.toList lo hi)) H
 | .ref a=>∃ xs,SqL K H a xs∧∀ p,H p=none→Q (.ref p) (upd H p (.lst (cutV xs lo hi)))
 | _=>False
theorem sl_M:SlR X (mSl X.K):=by
 intro pins s σ H x v vl vu lo hi sl Q I rx hs pl pu h
 unfold mSl at h
 cases x with
 | str z=>exact zp0_ pins s σ H _ v vl vu lo hi sl Q I rx hs pl pu ⟨by simpa [Str.length] using h.1,h.2⟩
 | ref p =>
  obtain ⟨xs,h1,h2⟩:=h
  exact zn5_ pins s σ H _ v vl vu lo hi sl Q I rx hs pl pu ⟨p,xs,rfl,h1,h2⟩
 | _=>exact h.elim
noncomputable def mPart (t:TE):TO:=fun σ H Q=>t σ H fun x H1=>match x with | .int i=>Q (some i) H1 | _=>False
theorem po_M (h:PE X e ta):PO X (some e) (mPart ta):=by
 intro pins s σ H Q I hw
 rw [evalPart_some]
 refine thn (h pins s σ H _ I hw) fun u s1 ⟨x,H1,I1,r1,q1⟩=>?_
 cases x with
 | int i=>obtain ⟨t,rfl⟩:=r1; exact ⟨some i,H1,I1,.int i t,q1⟩
 | _=>exact q1.elim
noncomputable def mLen (K:PySem.W.Frag):List V→Hp→VK→Prop:=fun xs H Q=>match xs with
 | [.str z]=>z.cps.toList.length≤sizeLine∧Q (.int z.cps.toList.length) H
 | [.ref p]=>∃ ys,(SqL K H p ys∨SqT K H p ys)∧Q (.int ys.length) H
 | _=>False
theorem zdu_:CallR X (.builtin "len") (mLen X.K):=by
 intro pins s σ H xs us Q I r h
 unfold mLen at h
 split at h
 ·exact zhL_ pins s σ H _ us Q I r ⟨_,rfl,by simpa [Str.length] using h.1,by simpa [Str.length] using h.2⟩
 ·obtain ⟨ys,h1,h2⟩:=h
  exact zhj_ pins s σ H _ us Q I r ⟨_,ys,rfl,h1,h2⟩
 ·exact h.elim
noncomputable def mTwo (g:Int→Int→Int):List V→Hp→VK→Prop:=fun xs H Q=>match xs with | [.int i,.int j]=>Q (.int (g i j)) H | _=>False
theorem zls_ (hc:X.calm=true):CallR X (.builtin "max") (mTwo max):=by
 intro pins s σ H xs us Q I r h
 unfold mTwo at h
 split at h
 ·rename_i i j
  refine zkT_ hc pins s σ H _ us Q I r ⟨i,j,rfl,?_⟩
  have e:(if j > i then j else i)=max i j:=by split<;>omega
  rw [e]; exact h
 ·exact h.elim
theorem zle_ (hc:X.calm=true):CallR X (.builtin "min") (mTwo min):=by
 intro pins s σ H xs us Q I r h
 unfold mTwo at h
 split at h
 ·rename_i i j
  refine zkQ_ hc pins s σ H _ us Q I r ⟨i,j,rfl,?_⟩
  have e:(if j<i then j else i)=min i j:=by split<;>omega
  rw [e]; exact h
 ·exact h.elim
noncomputable def tyS (K:PySem.W.Frag) (H:Hp):V→String→Prop:=fun x T=>match x with
 | .non=>T = "NoneType" | .bl _=>T = "bool" | .int _=>T = "int" | .str _=>T = "str"
 | .ref p=>(T = "list" ∧ ∃ xs,H p=some (.lst xs))∨(T = "tuple" ∧ ∃ xs,H p=some (.tup xs))
 | _=>False
theorem zp2_ {K:PySem.W.Frag}{H:Hp}{x:V}{T:String}(h:tyS K H x T):TyOf K H x (.type T):=by
 unfold tyS at h
 cases x with
 | non=>subst h; exact .non
 | bl b=>subst h; exact .bl b
 | int i=>subst h; exact .int i
 | str z=>subst h; exact .str z
 | ref p =>
  rcases h with ⟨rfl,xs,h⟩ | ⟨rfl,xs,h⟩
  ·exact .lst h
  ·exact .tup h
 | _=>exact h.elim
noncomputable def isaB (T c:String):Option Bool :=
 if T=c then some true else if T = "bool" ∧ c = "int" then some true
 else if (T = "bool" ∨ T = "int" ∨ T = "str" ∨ T = "list" ∨ T = "tuple" ∨ T = "NoneType")∧(c = "bool" ∨ c = "int" ∨ c = "str" ∨ c = "list" ∨ c = "tuple" ∨ c = "dict") then some false else none
theorem zoV_ {K:PySem.W.Frag}{T c:String}{b:Bool}(h:isaB T c=some b):PySem.W.kitOne K (.type T) (.type c)=some b:=by
 unfold isaB at h
 split at h
 ·rename_i e; subst e; cases h
  unfold PySem.W.kitOne
  rw [if_pos (by simp)]
 ·split at h
  ·rename_i e; obtain ⟨rfl,rfl⟩:=e; cases h; rfl
  ·split at h
   ·rename_i h1 h2 e
    cases h
    obtain ⟨e1,e2⟩:=e
    rcases e1 with rfl | rfl | rfl | rfl | rfl | rfl<;>rcases e2 with rfl | rfl | rfl | rfl | rfl | rfl<;>first | rfl | exact absurd rfl h1 | exact absurd ⟨rfl,rfl⟩ h2
   ·cases h
noncomputable def mIsa (K:PySem.W.Frag):List V→Hp→VK→Prop:=fun xs H Q=>match xs with
 | [.int _,.ty c]=>(match isaB "int" c with | some b=>Q (.bl b) H | none=>False)
 | [.bl _,.ty c]=>(match isaB "bool" c with | some b=>Q (.bl b) H | none=>False)
 | [.str _,.ty c]=>(match isaB "str" c with | some b=>Q (.bl b) H | none=>False)
 | [.non,.ty c]=>(match isaB "NoneType" c with | some b=>Q (.bl b) H | none=>False)
 | [.ref p,.ty c]=>∃ T,tyS K H (.ref p) T∧(match isaB T c with | some b=>Q (.bl b) H | none=>False)
 | _=>False
theorem zi2_:CallR X (.builtin "isinstance") (mIsa X.K):=by
 intro pins s σ H xs us Q I r h
 have key:∀ (x:V) (T c:String),xs=[x,.ty c]→tyS X.K H x T→(match isaB T c with | some b=>Q (.bl b) H | none=>False)→wpAny (model X.prog X.w) X.A (call (.builtin "isinstance") us) (EP X pins σ Q) X.xe s:=by
  intro x T c e ht hq
  subst e
  obtain ⟨u,w',rfl,r1,r2⟩:=vals2 r
  cases r2
  cases eb:isaB T c with
  | none=>rw [eb] at hq; exact hq.elim
  | some b =>
   rw [eb] at hq
   exact zlG_ I r1 (zp2_ ht) (zoV_ eb) fun tk=>⟨.bl b,H,I.tok tk,rfl,hq⟩
 unfold mIsa at h
 split at h
 ·exact key _ "int" _ rfl rfl h
 ·exact key _ "bool" _ rfl rfl h
 ·exact key _ "str" _ rfl rfl h
 ·exact key _ "NoneType" _ rfl rfl h
 ·obtain ⟨T,h1,h2⟩:=h
  exact key _ T _ rfl h1 h2
 ·exact h.elim
noncomputable def findS (l:List Nat) (t:List Nat):Int:=Txt.find ⟨l.toArray⟩ ⟨t.toArray⟩
theorem zjs_ (l:List Nat) (c:Nat):findS l [c]=(match l.findIdx? (· == c) with | some i=>(i:Int) | none => -1):=by
 unfold findS
 rcases find_whole ⟨l.toArray⟩ ⟨[c].toArray⟩ with ⟨h1,h2⟩ | ⟨i,h1,h2,h3⟩
 ·rw [h1]
  have:l.findIdx? (· == c)=none:=by
   rw [List.findIdx?_eq_none_iff]
   intro x hx
   obtain ⟨j,hj⟩:=List.mem_iff_getElem?.mp hx
   by_cases hxc:x=c
   ·subst hxc
    exact absurd ((StrLaws.subAt_one ⟨l.toArray⟩ x j).mpr (by simpa using hj)) (h2 j)
   ·simpa using hxc
  rw [this]
 ·rw [h1]
  have hi:l[i]?=some c:=by simpa using (StrLaws.subAt_one ⟨l.toArray⟩ c i).mp h2
  have:l.findIdx? (· == c)=some i:=by
   obtain ⟨hlt,hget⟩:=List.getElem?_eq_some_iff.mp hi
   rw [List.findIdx?_eq_some_iff_getElem]
   refine ⟨hlt,by simp [hget],fun j hj=>?_⟩
   have hjl:j<l.length:=Nat.lt_trans hj hlt
   have hn:=h3 j hj
   intro hc
   have hc':l[j]=c:=by simpa using hc
   exact hn ((StrLaws.subAt_one ⟨l.toArray⟩ c j).mpr (by simp [hjl,hc']))
  rw [this]
noncomputable def mFind:V→List V→Hp→VK→Prop:=fun x xs H Q=>match x,xs with | .str l,[.str t]=>Q (.int (findS l.cps.toList t.cps.toList)) H | _,_=>False
theorem zoy_:MtR X "str.find" mFind:=by
 intro pins s σ H x xs v us Q I rx rv h
 unfold mFind at h
 split at h
 ·rename_i l t
  obtain ⟨k,rfl⟩:=rx
  obtain ⟨u,rfl,ru⟩:=rv.one
  obtain ⟨k',rfl⟩:=ru
  refine SC.find ?_
  have e:Txt.find l t=findS l.cps.toList t.cps.toList:=by unfold findS; rw [← zbN_,← zbN_]
  rw [e]
  exact ⟨.int _,H,I.tok _,⟨_,rfl⟩,h⟩
 ·exact h.elim
noncomputable def mIndex:V→List V→Hp→VK→Prop:=fun x xs H Q=>match x,xs with | .str l,[.str t]=>findS l.cps.toList t.cps.toList ≠ -1∧Q (.int (findS l.cps.toList t.cps.toList)) H | _,_=>False
theorem zns_:MtR X "str.index" mIndex:=by
 intro pins s σ H x xs v us Q I rx rv h
 unfold mIndex at h
 split at h
 ·rename_i l t
  obtain ⟨k,rfl⟩:=rx
  obtain ⟨u,rfl,ru⟩:=rv.one
  obtain ⟨k',rfl⟩:=ru
  have e:Txt.find l t=findS l.cps.toList t.cps.toList:=by unfold findS; rw [← zbN_,← zbN_]
  rw [← e] at h
  unfold Txt.find at h
  cases ho:Builtin.Str.occurrences l t 0 l.length 1 with
  | nil=>rw [ho] at h; exact absurd rfl h.1
  | cons i rest =>
   rw [ho] at h
   exact SC.index ho ⟨.int _,H,I.tok _,⟨_,rfl⟩,h.2⟩
 ·exact h.elim
noncomputable def strsOf:List V→Option (List Str)
 | []=>some []
 | .str z::r=>(strsOf r).map (z::·)
 | _::_=>none
theorem zjk_ {vs:List V}{zs:List Str}:strsOf vs=some zs→vs=zs.map V.str:=by
 induction vs generalizing zs with
 | nil=>intro h; cases h; rfl
 | cons v r ih =>
  intro h
  cases v with
  | str z =>
   unfold strsOf at h
   cases e:strsOf r with
   | none=>rw [e] at h; cases h
   | some y=>rw [e] at h; cases h; rw [ih e]; rfl
  | _=>cases h
noncomputable def joinS (sep:List Nat) (zs:List Str):List Nat:=(Txt.join ⟨sep.toArray⟩ zs).cps.toList
noncomputable def mJoin (K:PySem.W.Frag):V→List V→Hp→VK→Prop:=fun x xs H Q=>match x,xs with
 | .str l,[.ref D]=>∃ vs,(SqL K H D vs)∧(match strsOf vs with | some zs=>JoinOk l zs=true∧Q (tx (joinS l.cps.toList zs)) H | none=>False)
 | _,_=>False
theorem zig_:∀ {zs:List Str}{us:List Value},Vals (zs.map V.str) us→∃ l:List (Str×Tok),us=strValues l∧l.map (·.1)=zs
 | [],us,r=>by cases r; exact ⟨[],rfl,rfl⟩
 | z::zs,us,r=>by
  cases r with
  | cons r rr =>
   obtain ⟨t,rfl⟩:=r
   obtain ⟨l,rfl,hl⟩:=zig_ rr
   exact ⟨(z,t)::l,rfl,by rw [List.map_cons,hl]⟩
theorem zj3_:MtR X "str.join" (mJoin X.K):=by
 intro pins s σ H x xs v us Q I rx rv h
 unfold mJoin at h
 split at h
 ·rename_i l D
  obtain ⟨k,rfl⟩:=rx
  obtain ⟨u,rfl,ru⟩:=rv.one
  cases ru
  obtain ⟨vs,hs,h⟩:=h
  cases ez:strsOf vs with
  | none=>rw [ez] at h; exact h.elim
  | some zs =>
   rw [ez] at h
   have ev:=zjk_ ez
   subst ev
   obtain ⟨its,r,p,hz⟩:=I.list hs
   obtain ⟨lz,e1,e2⟩:=zig_ r
   subst e1
   refine SC.join p.isList e2 h.1 fun t' k'=>⟨tx (joinS l.cps.toList zs),H,I.tok _,⟨t',?_⟩,h.2⟩
   unfold joinS
   rw [← zbN_,← zbN_]
 ·exact h.elim
end
theorem zmF_ (zs:List Str):joinS [] zs=(zs.map fun z=>z.cps.toList).flatten:=by
 unfold joinS Txt.join Builtin.Str.glued
 cases zs with
 | nil=>rfl
 | cons z r =>
  show ((r.foldl (fun acc p=>acc++#[]++p.cps) z.cps)).toList=_
  have:∀ (acc:Array Nat),(r.foldl (fun acc p=>acc++#[]++p.cps) acc).toList=acc.toList++(r.map fun z=>z.cps.toList).flatten:=by
   induction r with
   | nil=>intro acc; simp
   | cons y r ih=>intro acc; rw [List.foldl_cons,ih]; simp
  rw [this]
  simp
end L2
namespace L2
open PySem PySem.Spec PyProof.Rows
noncomputable def Gd (P:Program) (w:World) (K:PySem.W.Frag) (mg:Str→Option Value) (base:Heap) (CX:CXT) (k:Nat) (x:Str) (ps:List Str) (sp:Sp):Prop :=
 ∃ f fd,FnOk P w K mg base CX k f fd ps sp∧mg x=some (.ref f)∧PySem.W.keepIn K (.ref f)=true∧Binds K fd ps []
noncomputable def Gc (mg:Str→Option Value) (x:Str) (v:V):Prop:=∃ u,mg x=some u∧RelV v u
noncomputable abbrev Gb (mg:Str→Option Value) (x:Str):Prop:=mg x=none
section
variable {X:Cx}{CX:CXT}{k:Nat}{x:Str}{ps:List Str}{sp:Sp}{p pos:Pos}{e:Expr}{es:List Expr}{t:TA}{tg:Expr}
theorem zQ_ (G:Gd X.prog X.w X.K X.mg X.base CX0 k x ps sp) (hr:Room k X.A) (ha:PA X (e::es) t) (hg:Gl X x:=by rfl) (hdb:(x == ("__debug__" : Str))=false:=by decide)
  (he:starEach (e::es) X.env=(false,eval e X.env)::starEach es X.env:=by rfl) (hpl:(backTo pos (starEach es X.env)).any (·.1)=false:=by rfl) :
  PE X (.Call (.Name x p) (e::es) [] pos) (tCall sp [] E0 t):=by
 obtain ⟨f,fd,F,hm,hk,hb⟩:=G
 exact zn7_ F hr hg hm hk hb .nil pass0 ha hdb he hpl
theorem zpe_ {v:V}(h:Gc X.mg x v) (hg:Gl X x:=by rfl) (hd:(x == ("__debug__" : Str))=false:=by decide):PE X (.Name x pos) (tC v):=by
 obtain ⟨u,hm,r⟩:=h
 exact zos_ hg hm r hd
theorem pe_ty (T:String) (hm:Gb X.mg x) (hg:Gl X x:=by rfl) (hv:bootBuiltins x=some (.type T):=by rfl) (hn:x ≠ "__name__" := by decide) (hd:(x == ("__debug__" : Str))=false:=by decide):PE X (.Name x pos) (tC (.ty T)) :=
 zoK_ hg hm hv rfl hn hd
theorem zjN_ {id:String}{r:List V→Hp→VK→Prop}(hc:CallR X (.builtin id) r) (hm:Gb X.mg x) (ha:PA X (e::es) t) (hg:Gl X x:=by rfl) (hv:bootBuiltins x=some (.builtin id):=by rfl) (hn:x ≠ "__name__" := by decide) (hdb:(x == ("__debug__" : Str))=false:=by decide)
  (hs:starEach (e::es) X.env=(false,eval e X.env)::starEach es X.env:=by rfl) (hpl:(backTo pos (starEach es X.env)).any (·.1)=false:=by rfl):PE X (.Call (.Name x p) (e::es) [] pos) (tCB r t) :=
 zmE_ hc hg hm hv ha hn hdb hs hpl
theorem znD_ {o:Expr}{to:TE}{name:Str}{id:String}{r:V→List V→Hp→VK→Prop}{apos cpos:Pos}(slot:Slot "str" name id) (hty:typeOf (.builtin id)=pure (.type "method_descriptor")) (hm:MtR X id r) (ho:PE X o to) (ha:PA X (e::es) t)
  (h1:attributeBase o name X.env (eval o X.env)=eval o X.env:=by rfl) (h2:((((backTo cpos (starEach (e::es) X.env)).all fun x=>!x.fst) && (backToKw cpos (keywordEach [] X.env)).all fun x=>x.fst.isSome) && decide (((e::es).length+([]:List Keyword).length+if ([]:List Keyword).isEmpty=true then 0 else 1)<30))=true:=by rfl)
  (h3:(apos.endLine == cpos.line)=true:=by rfl) (h4:starEach (e::es) X.env=(false,eval e X.env)::starEach es X.env:=by rfl) (h5:((backTo cpos (starEach es X.env)).any fun x=>x.fst)=false:=by rfl) :
  PE X (.Call (.Attribute o name apos) (e::es) [] cpos) (tBM X.K "str" r to t):=zk0_ PySem.F.plainAttrs_str slot hty hm ho ha h1 h2 h3 h4 h5
noncomputable def iAny (K:PySem.W.Frag) (tl:TE):TI:=fun σ H R=>tl σ H fun x H1=>match x with
 | .str z=>R (Itp z.cps.toList.length (fun i=>tx [z.cps.toList.getD i 0])) H1
 | .ref a=>((∃ xs,SqL K H1 a xs)∧R (Itl K a) H1)∨((∃ xs,SqT K H1 a xs)∧R (Itt K a) H1)
 | _=>False
theorem zn6_ (z:Str):sgn z=fun i=>tx [z.cps.toList.getD i 0]:=by
 funext i
 unfold sgn
 simp [Array.getD_eq_getD_getElem?,List.getD_eq_getElem?_getD]
theorem zdG_ {l:Expr}{tl:TE}(hl:PE X l tl):PI X tg l (iAny X.K tl):=by
 intro pins s σ H R I h
 refine thn (hl pins s σ H _ I h) fun v s1 ⟨x,H1,I1,r1,q1⟩=>?_
 have pt:∀ (v:V),PE X l (tC v)→PE X l (tC v):=fun _ h=>h
 cases x with
 | str z =>
  obtain ⟨t,rfl⟩:=r1
  refine wpAny_pyIter_strU ?_
  have q:R (Itp z.cps.size (sgn z)) H1:=by
   have e:z.cps.toList.length=z.cps.size:=by simp
   rw [zn6_,← e]
   exact q1
  refine ⟨s1.heap.objs.size,[s1.heap.objs.size],_,_,H1,rfl,I1.kept (t':=s1.toks) fun b o e=>Heap.get?_push_of_some _ e,znk_ _ z t,⟨Nat.zero_le _,⟨_,Heap.get?_push_size _ rfl,rfl,rfl⟩⟩,fun b hb=>?_,q⟩
  have e:b=s1.heap.objs.size:=by simpa using hb
  subst e
  exact I1.fpOk (Nat.le_refl _) (I1.hok.fresh (Nat.le_refl _))
 | ref a =>
  cases r1
  rcases q1 with ⟨⟨xs,hq⟩,q⟩ | ⟨⟨xs,hq⟩,q⟩
  ·obtain ⟨its,rv,p,hz⟩:=I1.list hq
   refine wpAny_pyIter_list p.isList ?_
   refine ⟨s1.heap.objs.size,[s1.heap.objs.size],_,_,H1,rfl,I1.kept (t':=s1.toks) fun b o e=>Heap.get?_push_of_some _ e,zlI_ a _,⟨_,Heap.get?_push_size _ rfl,rfl,rfl⟩,fun b hb=>?_,q⟩
   have e:b=s1.heap.objs.size:=by simpa using hb
   subst e
   exact I1.fpOk (Nat.le_refl _) (I1.hok.fresh (Nat.le_refl _))
  ·obtain ⟨its,rv,p,hz⟩:=I1.tuple hq
   refine wpAny_pyIter_tuple (show s1.heap.IsTuple a its.toArray from p) ?_
   refine ⟨s1.heap.objs.size,[s1.heap.objs.size],_,_,H1,rfl,I1.kept (t':=s1.toks) fun b o e=>Heap.get?_push_of_some _ e,zkB_ a _,⟨_,Heap.get?_push_size _ rfl,rfl,rfl⟩,fun b hb=>?_,q⟩
   have e:b=s1.heap.objs.size:=by simpa using hb
   subst e
   exact I1.fpOk (Nat.le_refl _) (I1.hok.fresh (Nat.le_refl _))
 | _=>exact q1.elim
noncomputable def mRng1 (ta:TA):TI:=fun σ H R=>ta σ H fun vs H1=>match vs with | [.int j] => -(2 ^ 62)≤j∧j<2 ^ 62∧R (Itr 0 j.toNat) H1 | _=>False
noncomputable def mRng2 (ta:TA):TI:=fun σ H R=>ta σ H fun vs H1=>match vs with | [.int i,.int j]=>(-(2 ^ 62)≤i∧i<2 ^ 62 ∧ -(2 ^ 62)≤j∧j<2 ^ 62)∧R (Itr i (j-i).toNat) H1 | _=>False
end
section
variable {X:Cx}{tg:Expr}
theorem zel_ {a:Expr}{ta:TA}{p pos:Pos}(hm:Gb X.mg "range") (ha:PA X [a] ta) (hg:Gl X "range" := by rfl) (hs:starEach [a] X.env=[(false,eval a X.env)]:=by rfl):PI X tg (.Call (.Name "range" p) [a] [] pos) (mRng1 ta):=by
 intro pins s σ H R I h
 refine Call_ (zgW_ I hg hm boot_range (PyProof.Rows.callWith_type1 (thn (ha pos pins s σ H _ I h) fun us s1 ⟨vs,H1,I1,r1,q1⟩=>?_) hs rfl))
 dsimp only at q1
 split at q1
 ·obtain ⟨q2,q3,q⟩:=q1
  cases r1 with
  | cons r rr =>
   cases rr
   obtain ⟨t,rfl⟩:=r
   exact call_range_1 (zjG_ I1 (by omega) (by omega) q2 q3 (by simpa using q))
 ·exact q1.elim
theorem zka_ {a b:Expr}{ta:TA}{p pos:Pos}(hm:Gb X.mg "range") (ha:PA X [a,b] ta) (hg:Gl X "range" := by rfl) (hs:starEach [a,b] X.env=[(false,eval a X.env),(false,eval b X.env)]:=by rfl) (hs2:starEach [b] X.env=[(false,eval b X.env)]:=by rfl) :
  PI X tg (.Call (.Name "range" p) [a,b] [] pos) (mRng2 ta):=by
 intro pins s σ H R I h
 refine Call_ (zgW_ I hg hm boot_range (PyProof.Rows.callWith_type1 (thn (ha pos pins s σ H _ I h) fun us s1 ⟨vs,H1,I1,r1,q1⟩=>?_) (by rw [hs,hs2]) (by rw [hs2]; rfl)))
 dsimp only at q1
 split at q1
 ·obtain ⟨⟨q1,q2,q3,q4⟩,q⟩:=q1
  cases r1 with
  | cons r rr =>
   cases rr with
   | cons r' rr =>
    cases rr
    obtain ⟨t,rfl⟩:=r
    obtain ⟨t',rfl⟩:=r'
    exact call_range_2 (zjG_ I1 q1 q2 q3 q4 q)
 ·exact q1.elim
variable {elts:List Expr}{kk:Nat}{tpos:Pos}
noncomputable def iEnum (K:PySem.W.Frag) (ta:TA):TI:=fun σ H R=>ta σ H fun vs H1=>match vs with
 | [.str z]=>R (Ites z.cps.toList.length (fun i=>tx [z.cps.toList.getD i 0])) H1
 | [.ref a]=>(∃ xs,SqL K H1 a xs)∧R (Ite K a) H1
 | _=>False
theorem zks_ {a:Expr}{ta:TA}{p pos:Pos}(hm:Gb X.mg "enumerate") (ha:PA X [a] ta) (hg:Gl X "enumerate" := by rfl) (hs:starEach [a] X.env=[(false,eval a X.env)]:=by rfl) :
  PI X (.Tuple elts kk tpos) (.Call (.Name "enumerate" p) [a] [] pos) (iEnum X.K ta):=by
 intro pins s σ H R I h
 refine Call_ (zgW_ I hg hm (u:=.type "enumerate") (by rfl) (PyProof.Rows.callWith_type1 (thn (ha pos pins s σ H _ I h) fun us s1 ⟨vs,H1,I1,r1,q1⟩=>?_) hs rfl))
 dsimp only at q1
 split at q1
 ·rename_i z
  cases r1 with
  | cons r rr =>
   cases rr
   obtain ⟨t,rfl⟩:=r
   refine call_enumerate_str fun h' he hit hsz hk=>?_
   refine wpAny_pyIter_enum (s:={ s1 with heap:=h' }) he ?_
   have I2:Inv X pins σ H1 { s1 with heap:=h' }:=I1.kept (t':=s1.toks) hk
   have q:R (Ites z.cps.size (sgn z)) H1:=by
    have e:z.cps.toList.length=z.cps.size:=by simp
    rw [zn6_,← e]
    exact q1
   refine ⟨s1.heap.objs.size+1,[s1.heap.objs.size+1,s1.heap.objs.size],_,_,H1,rfl,I2,zki_ _ _ z t (by simp),⟨⟨_,he⟩,Nat.zero_le _,hit⟩,fun b hb=>?_,q⟩
   have hb':s1.heap.objs.size≤b:=by
    rcases List.mem_cons.mp hb with rfl | hb
    ·exact Nat.le_succ _
    ·have e:b=s1.heap.objs.size:=by simpa using hb
     subst e; exact Nat.le_refl _
   exact I1.fpOk hb' (I1.hok.fresh hb')
 ·rename_i l
  obtain ⟨⟨xs,hq⟩,q⟩:=q1
  cases r1 with
  | cons r rr =>
   cases rr
   cases r
   obtain ⟨its,rv,p,hz⟩:=I1.list hq
   refine call_enumerate_list p.isList fun h' he hit hsz hk=>?_
   refine wpAny_pyIter_enum (s:={ s1 with heap:=h' }) he ?_
   have I2:Inv X pins σ H1 { s1 with heap:=h' }:=I1.kept (t':=s1.toks) hk
   refine ⟨s1.heap.objs.size+1,[s1.heap.objs.size+1,s1.heap.objs.size],_,_,H1,rfl,I2,zkb_ _ _ l (by simp),⟨⟨_,he⟩,hit⟩,fun b hb=>?_,q⟩
   have hb':s1.heap.objs.size≤b:=by
    rcases List.mem_cons.mp hb with rfl | hb
    ·exact Nat.le_succ _
    ·have e:b=s1.heap.objs.size:=by simpa using hb
     subst e; exact Nat.le_refl _
   exact I1.fpOk hb' (I1.hok.fresh hb')
 ·exact q1.elim
noncomputable def gNilM:TGs:=fun vs σ H Q=>match vs with | []=>Q σ H | _=>False
noncomputable def gConsM (t:TG) (u:TGs):TGs:=fun vs σ H Q=>match vs with | v::r=>t v σ H fun σ' H'=>u r σ' H' Q | []=>False
theorem zfp_:PGs X [] gNilM:=by
 intro pins s σ H vs us Q I r h
 cases vs with
 | nil=>exact zof_ pins s σ H [] us Q I r ⟨rfl,h⟩
 | cons _ _=>exact h.elim
theorem zbE_ {e:Expr}{es:List Expr}{t:TG}{u:TGs}(h1:PG X e t) (h2:PGs X es u)
  (hs:(assignEach (e::es) X.env).map (·.2)=assign e X.env::(assignEach es X.env).map (·.2):=by rfl):PGs X (e::es) (gConsM t u):=by
 intro pins s σ H vs us Q I r h
 cases vs with
 | nil=>exact h.elim
 | cons v vr=>exact znB_ h1 h2 hs pins s σ H _ us Q I r ⟨v,vr,rfl,h⟩
noncomputable def gTupM (K:PySem.W.Frag) (n:Nat) (t:TGs):TG:=fun v σ H Q=>match v with | .ref a=>∃ xs,SqT K H a xs∧xs.length=n∧t xs σ H Q | _=>False
theorem zg8_ {es:List Expr}{k:Nat}{t:TGs}{n:Nat}{pos:Pos}(hc:X.calm=true) (h:PGs X es t)
  (hn:(assignEach es X.env).length=n:=by rfl) (hst:(assignEach es X.env).findIdx? (·.1)=none:=by rfl):PG X (.Tuple es k pos) (gTupM X.K n t):=by
 intro pins s σ H v u Q I r hw
 cases v with
 | ref a =>
  obtain ⟨xs,h1,h2,h3⟩:=hw
  exact zqc_ hc h hn hst pins s σ H _ u Q I r ⟨a,xs,rfl,h1,h2,h3⟩
 | _=>exact hw.elim
noncomputable def mNeg (ta:TE):TE:=fun σ H Q=>ta σ H fun x H1=>match x with | .int i=>Q (.int (-i)) H1 | _=>False
theorem zp7_ {a:Expr}{ta:TE}{pos:Pos}(ha:PE X a ta):PE X (.UnaryOp .USub a pos) (mNeg ta):=by
 intro pins s σ H Q I h
 refine UnaryOp_ (thn (ha pins s σ H _ I h) fun v s1 ⟨x,H1,I1,r1,q1⟩=>?_)
 cases x with
 | int i=>exact zqi_ pins s1 σ H1 _ v Q I1 r1 ⟨i,rfl,q1⟩
 | _=>exact q1.elim
end
theorem zep_ {H:Hp}{p:Addr}(h:H p=none) (o:HO):Same H (upd H p o):=fun b u q=>by rw [zaT_ (zcs_ q h)]; exact q
end L2
namespace L2
open PySem PySem.Spec PyProof.Rows
theorem zeu_ {n:Nat}(h:n≤100000):n≤sizeLine:=by rw [sizeLine_eq]; omega
theorem ze1_ {zs:List Str}{sep:Str}(h:zs.length*(sep.length+1)≤100000) (h1:∀ z∈zs,z.length≤1):JoinOk sep zs=true:=by
 unfold JoinOk
 have key:∀ (l:List Str) (acc:Nat),(∀ z∈l,z.length≤1)→l.foldl (fun x1 x2=>x1+x2.length+sep.length) acc≤acc+l.length*(sep.length+1):=by
  intro l
  induction l with
  | nil=>intro acc _; simp
  | cons z r ih =>
   intro acc hz
   rw [List.foldl_cons]
   have h2:=ih (acc+z.length+sep.length) fun y hy=>hz y (List.mem_cons_of_mem _ hy)
   have h3:=hz z List.mem_cons_self
   rw [List.length_cons,Nat.add_mul]
   omega
 have q:=key zs 0 h1
 rw [List.foldl_toArray]
 unfold Builtin.Str.tooLong
 simp only [Bool.not_eq_true',decide_eq_false_iff_not]
 have:zs.foldl (fun x1 x2=>x1+x2.length+sep.length) 0≤100000:=by omega
 have hl:(100000:Nat)≤sizeLine:=by rw [sizeLine_eq]; omega
 omega
end L2
namespace L2
open PySem PySem.Spec PyProof.Rows
section
variable {X:Cx}{tg:Expr}
theorem ziT_ {P:Program}{w:World}{K:PySem.W.Frag}{tg:Expr}(it:Addr) (lo c:Int) (n:Nat) :
  Turn P w K tg (Itp n fun i=>.int (lo+i*c)) [it] it (fun i h=>i≤n∧IsRangeIter h it (lo+(i:Nat)*c) ((n:Int)-(i:Nat)) c):=by
 refine zio_ (Pw:=fun i v=>∃ t,v=.int (lo+i*c) t) (fun A hA=>Walks.range hA it lo c n) (fun i v _ h=>h) (fun i h st=>⟨_,_,_,st,rfl,rfl,by decide⟩) (fun A i s Q E st h=>wpAny_pyIter_rangeiter st h) (fun i h h' st k=>k it (by simp) _ st)
theorem zdP_ (a b:Int):Builtin.Range.rangeSize a b (-1)=(((a-b).toNat:Nat):Int):=by
 unfold Builtin.Range.rangeSize
 rw [if_neg (by decide)]
 split
 ·have e:(a-b-1) / (- -1)=a-b-1:=by
   have:(- -1:Int)=1:=by decide
   rw [this,Int.ediv_one]
  rw [e]; omega
 ·omega
theorem zjF_ {a b:Int}(ha : -(2 ^ 61)≤a) (ha':a<2 ^ 61) (hb : -(2 ^ 61)≤b) (hb':b<2 ^ 61):Builtin.Range.small a b (-1)=true:=by
 unfold Builtin.Range.small
 rw [zdP_]
 simp only [Builtin.Range.rangeFitsLong,Bool.and_eq_true,Bool.or_eq_true,decide_eq_true_eq,beq_iff_eq,show ¬ ((-1:Int) > 0) by decide,if_false]
 omega
noncomputable def mRng3 (ta:TA):TI:=fun σ H R=>ta σ H fun vs H1=>match vs with
 | [.int i,.int j,.int c]=>c = -1∧(-(2 ^ 61)≤i∧i<2 ^ 61 ∧ -(2 ^ 61)≤j∧j<2 ^ 61)∧R (Itp (i-j).toNat fun k=>.int (i+k*(-1))) H1
 | _=>False
theorem zny_ {a b c:Expr}{ta:TA}{p pos:Pos}(hm:Gb X.mg "range") (ha:PA X [a,b,c] ta) (hg:Gl X "range" := by rfl)
  (hs:starEach [a,b,c] X.env=(false,eval a X.env)::starEach [b,c] X.env:=by rfl) (hpl:(backTo pos (starEach [b,c] X.env)).any (·.1)=false:=by rfl) :
  PI X tg (.Call (.Name "range" p) [a,b,c] [] pos) (mRng3 ta):=by
 intro pins s σ H R I h
 refine Call_ (zgW_ I hg hm boot_range (PyProof.Rows.callWith_type1 (thn (ha pos pins s σ H _ I h) fun us s1 ⟨vs,H1,I1,r1,q1⟩=>?_) hs hpl))
 dsimp only at q1
 split at q1
 ·rename_i i j c
  obtain ⟨rfl,⟨q1,q2,q3,q4⟩,q⟩:=q1
  cases r1 with
  | cons r rr =>
   cases rr with
   | cons r' rr =>
    cases rr with
    | cons r'' rr =>
     cases rr
     obtain ⟨t,rfl⟩:=r
     obtain ⟨t',rfl⟩:=r'
     obtain ⟨t'',rfl⟩:=r''
     refine call_range_3 (by decide) ?_ (.inl (PyProof.noPylong_small (by decide)))
     refine wpAny_pyIter_range (IsRange.new ..) (zjF_ q1 q2 q3 q4) ?_
     have I2:Inv X pins σ H1 { s1 with heap:=s1.heap.push { cls:=.type "range",data:=.fields #[.int i t,.int j t',.int (-1) t''] },toks:=s1.toks }:=I1.kept fun b o e=>Heap.get?_push_of_some _ e
     refine ⟨(s1.heap.push { cls:=.type "range",data:=.fields #[.int i t,.int j t',.int (-1) t''] }).objs.size,[(s1.heap.push { cls:=.type "range",data:=.fields #[.int i t,.int j t',.int (-1) t''] }).objs.size],_,_,H1,rfl,
      I2.kept (t':=s1.toks) fun b o e=>Heap.get?_push_of_some _ e,ziT_ _ i (-1) (i-j).toNat,⟨Nat.zero_le _,?_⟩,fun b hb=>?_,q⟩
     ·have e1:i+((0:Nat):Int)*(-1)=i:=by simp
      have e2:(((i-j).toNat:Nat):Int)-((0:Nat):Int)=Builtin.Range.rangeSize i j (-1):=by rw [zdP_]; simp
      rw [e1,e2]
      exact Heap.get?_push_size _ rfl
     ·have e:b=(s1.heap.push { cls:=.type "range",data:=.fields #[.int i t,.int j t',.int (-1) t''] }).objs.size:=by simpa using hb
      subst e
      exact I2.fpOk (Nat.le_refl _) (I2.hok.fresh (Nat.le_refl _))
 ·exact q1.elim
noncomputable def mSet:TSet:=fun o i v H Q=>match i with
 | .int k=>(match o with
  | .ref p=>∃ xs,H p=some (.lst xs)∧(match ixN xs.length k with | some j=>Q (upd H p (.lst (xs.set j v))) | none=>False)
  | _=>False)
 | _=>False
theorem set_M:PSet X mSet:=by
 intro pins s σ H o i v ov iv u Q I ro ri rv h
 unfold mSet at h
 cases i with
 | int k =>
  cases o with
  | ref p =>
   obtain ⟨xs,h1,h⟩:=h
   cases e:ixN xs.length k with
   | none=>rw [e] at h; exact h.elim
   | some j =>
    rw [e] at h
    exact zmp_ pins s σ H _ _ v ov iv u Q I ro ri rv ⟨p,xs,k,j,rfl,rfl,h1,e,h⟩
  | _=>exact h.elim
 | _=>exact h.elim
theorem zmO_ {n:Nat}{k:Int}(h0:0≤k) (h1:k<n):ixN n k=some k.toNat:=by unfold ixN; rw [if_pos h0,if_pos h1]
noncomputable def strI (i:Int):List Nat:=(Str.ofString (toString i)).cps.toList
noncomputable def mStr:List V→Hp→VK→Prop:=fun xs H Q=>match xs with | [.int i]=>i.natAbs.log2<1920∧Q (tx (strI i)) H | _=>False
theorem zlm_:CallR X (.type "str") mStr:=by
 intro pins s σ H xs us Q I r h
 unfold mStr at h
 split at h
 ·rename_i i
  refine zhS_ pins s σ H _ us Q I r ⟨i,rfl,h.1,?_⟩
  have e:tx (strI i)=V.str (Str.ofString (toString i)):=by unfold strI tx; rw [← zbN_]
  rw [← e]
  exact h.2
 ·exact h.elim
noncomputable def mZfill:V→List V→Hp→VK→Prop:=fun x xs H Q=>match x,xs with | .str l,[.int i]=>PadOk i=true∧Q (tx (Txt.zfill l i).cps.toList) H | _,_=>False
theorem zmq_:MtR X "str.zfill" mZfill:=by
 intro pins s σ H x xs v us Q I rx rv h
 unfold mZfill at h
 split at h
 ·rename_i l i
  obtain ⟨k,rfl⟩:=rx
  obtain ⟨u,rfl,ru⟩:=rv.one
  obtain ⟨k',rfl⟩:=ru
  exact SC.zfill h.1 fun t' k=>⟨tx (Txt.zfill l i).cps.toList,H,I.tok _,⟨t',by rw [← zbN_]⟩,h.2⟩
 ·exact h.elim
end
section
variable {X:Cx}{x:Str}{p pos:Pos}{e:Expr}{es:List Expr}{t:TA}
theorem znH_ (T:String) {r:List V→Hp→VK→Prop}(hc:CallR X (.type T) r) (hm:Gb X.mg x) (ha:PA X (e::es) t) (hg:Gl X x:=by rfl) (hv:bootBuiltins x=some (.type T):=by rfl) (hn:x ≠ "__name__" := by decide) (hdb:(x == ("__debug__" : Str))=false:=by decide)
  (hs:starEach (e::es) X.env=(false,eval e X.env)::starEach es X.env:=by rfl) (hpl:(backTo pos (starEach es X.env)).any (·.1)=false:=by rfl):PE X (.Call (.Name x p) (e::es) [] pos) (tCB r t) :=
 zlF_ hc hg hm hv ha hn hdb hs hpl
end
noncomputable def digs:Nat→Nat→List Nat
 | 0,_=>[]
 | w+1,n=>digs w (n / 10)++[48+n % 10]
theorem zcn_:∀ (w n:Nat),(digs w n).length=w
 | 0,_=>rfl
 | w+1,n=>by rw [digs,List.length_append,zcn_ w]; rfl
theorem zim_:∀ (w:Nat),digs w 0=List.replicate w 48
 | 0=>rfl
 | w+1=>by rw [digs,zim_ w,List.replicate_succ']
end L2
namespace L2
open PySem PySem.Spec PyProof.Rows
noncomputable def dg (m:Nat):List Nat:=(Nat.toDigits 10 m).map Char.toNat
theorem ziW_ (m:Nat):strI (m:Int)=dg m:=PySem.W.KIN.signs_num m
theorem zgQ_:∀ d:Nat,d<10→(Nat.digitChar d).toNat=48+d:=by decide
theorem zqf_ {m:Nat}(h:m<10):dg m=[48+m]:=by
 unfold dg
 rw [Nat.toDigits_of_lt_base h]
 show [(Nat.digitChar m).toNat]=_
 rw [zgQ_ m h]
theorem dg_ge {m:Nat}(h:¬ m<10):dg m=dg (m / 10)++[48+m % 10]:=by
 unfold dg
 have hm:m % 10<10:=Nat.mod_lt m (by decide)
 have t:Nat.toDigits 10 (m / 10)++Nat.toDigits 10 (m % 10)=Nat.toDigits 10 (10*(m / 10)+m % 10):=Nat.toDigits_append_toDigits (by decide) (by omega) hm
 rw [Nat.div_add_mod] at t
 rw [← t,List.map_append,Nat.toDigits_of_lt_base hm]
 show _++[(Nat.digitChar (m % 10)).toNat]=_
 rw [zgQ_ _ hm]
theorem zoX_:∀ (w m:Nat),m<10 ^ (w+1)→(dg m).length≤w+1∧List.replicate (w+1-(dg m).length) 48++dg m=digs (w+1) m
 | w,m,h=>by
  by_cases hm:m<10
  ·rw [zqf_ hm]
   refine ⟨by show 1≤w+1; omega,?_⟩
   rw [digs,show m / 10=0 by omega,zim_,show m % 10=m by omega]
   rfl
  ·cases w with
   | zero=>exact absurd h (by simpa using hm)
   | succ w =>
    have hd:m / 10<10 ^ (w+1):=by
     rw [Nat.div_lt_iff_lt_mul (by decide)]
     rw [Nat.pow_succ] at h
     exact h
    obtain ⟨h1,h2⟩:=zoX_ w (m / 10) hd
    rw [dg_ge hm]
    refine ⟨by rw [List.length_append]; show _+1≤_; omega,?_⟩
    have e:digs (w+1+1) m=digs (w+1) (m / 10)++[48+m % 10]:=rfl
    rw [e,← h2,List.append_assoc,List.length_append]
    have e2:w+1+1-((dg (m / 10)).length+[48+m % 10].length)=w+1-(dg (m / 10)).length:=by
     show w+1+1-((dg (m / 10)).length+1)=_
     omega
    rw [e2]
theorem znM_ (m:Nat):∃ c r,dg m=c::r∧48≤c:=by
 induction m using Nat.strongRecOn with
 | _ m ih =>
  by_cases h:m<10
  ·exact ⟨48+m,[],zqf_ h,by omega⟩
  ·obtain ⟨c,r,e,hc⟩:=ih (m / 10) (by omega)
   exact ⟨c,r++[48+m % 10],by rw [dg_ge h,e]; rfl,hc⟩
theorem zkj_ {w m:Nat}(hw:1≤w) (h:m<10 ^ w):(Txt.zfill ⟨(dg m).toArray⟩ (w:Int)).cps.toList=digs w m:=by
 obtain ⟨w',rfl⟩:∃ w',w=w'+1:=⟨w-1,by omega⟩
 obtain ⟨h1,h2⟩:=zoX_ w' m h
 have hl:(⟨(dg m).toArray⟩:Str).length=(dg m).length:=by simp [Str.length]
 unfold Txt.zfill
 rw [hl]
 by_cases he:((w'+1:Nat):Int)≤((dg m).length:Int)
 ·rw [if_pos he]
  have e:(dg m).length=w'+1:=by omega
  rw [← h2,e,Nat.sub_self]
  simp
 ·rw [if_neg he]
  obtain ⟨c,r,ec,hc⟩:=znM_ m
  have e:zfilled ⟨(dg m).toArray⟩ ((((w'+1:Nat):Int)).toNat-(dg m).length)=Builtin.Str.padded ⟨(dg m).toArray⟩ ((((w'+1:Nat):Int)).toNat-(dg m).length) 0 48:=by
   unfold zfilled
   have e0:((⟨(dg m).toArray⟩:Str).cps)[0]?=some c:=by rw [ec]; simp
   rw [e0]
   split
   ·rename_i h'; cases h'; omega
   ·rename_i h'; cases h'; omega
   ·rfl
  rw [e]
  unfold Builtin.Str.padded
  rw [← h2]
  simp
theorem zgP_:∀ (j n:Nat),digs (j+1) n=(48+n / 10 ^ j % 10)::digs j n
 | 0,n=>by simp [digs]
 | j+1,n=>by
  have e:digs (j+1+1) n=digs (j+1) (n / 10)++[48+n % 10]:=rfl
  rw [e,zgP_ j (n / 10),Nat.div_div_eq_div_mul]
  have e2:10*10 ^ j=10 ^ (j+1):=by rw [Nat.pow_succ,Nat.mul_comm]
  rw [e2]
  rfl
theorem zkS_ (l:List Nat):joinS [] (l.map fun c=>(⟨#[c]⟩:Str))=l:=by
 rw [L2.zmF_,List.map_map]
 induction l with
 | nil=>rfl
 | cons c r ih=>rw [List.map_cons,List.flatten_cons,ih]; rfl
end L2
namespace L2
open PySem PySem.Spec PyProof.Rows
noncomputable def fig (c:Nat):Nat:=if 48≤c∧c≤57 then c else 48
noncomputable def numL (l:List Nat):Int:=l.foldl (fun (v:Int) (c:Nat)=>v*10+((c:Int)-48)) 0
theorem zgJ_ {c:Nat}(h:48≤c∧c≤57):findS [48,49,50,51,52,53,54,55,56,57] [c]=(c:Int)-48:=by
 rw [zjs_]
 obtain ⟨h1,h2⟩:=h
 have:c=48∨c=49∨c=50∨c=51∨c=52∨c=53∨c=54∨c=55∨c=56∨c=57:=by omega
 rcases this with rfl | rfl | rfl | rfl | rfl | rfl | rfl | rfl | rfl | rfl<;>rfl
theorem zh0_ {c:Nat}(h:¬ (48≤c∧c≤57)):findS [48,49,50,51,52,53,54,55,56,57] [c] = -1:=by
 rw [zjs_]
 have:List.findIdx? (· == c) [48,49,50,51,52,53,54,55,56,57]=none:=by
  rw [List.findIdx?_eq_none_iff]
  intro x hx
  simp only [List.mem_cons,List.not_mem_nil,or_false] at hx
  simp only [beq_eq_false_iff_ne,ne_eq]
  omega
 rw [this]
theorem zlE_ (c:Nat):inS [c] [48,49,50,51,52,53,54,55,56,57]=decide (48≤c∧c≤57):=by
 show decide (c∈[48,49,50,51,52,53,54,55,56,57])=_
 rw [decide_eq_decide]
 simp only [List.mem_cons,List.not_mem_nil,or_false]
 omega
theorem zf2_ (c:Nat):48≤fig c∧fig c≤57:=by unfold fig; split<;>omega
end L2
namespace L2
open PySem PySem.Spec PyProof.Rows
structure FlyX (x T C:Addr) (H:Hp) (hb h:Heap):Prop where
 obj:∃ oe vs a0 oT ts,h.get? x=some oe∧(oe.cls=.ref C∧vs[0]?=some a0)∧oe.data=.fields vs∧vs[1]?=some (.ref T)∧T≠x∧h.get? T=some oT∧oT.data=.fields ts∧ts[3]?=some .none
 hx:H x=none
 hT:H T=none
 nx:hb.get? x=none
 nT:hb.get? T=none
noncomputable def CXx (P:Program) (w:World):CXT:=fun outer H s E e s'=>∃ x T C H',e=.ref x∧s'.os=s.os∧AllBare s'.gens∧Un (frs outer) [] H H' s.heap s'.heap∧HOk P w H' s'.heap ∧
 FlyX x T C H' s.heap s'.heap∧E (.ref C) none H'
section
variable {X:Cx}{pins:List (Addr×Obj)}{σ:St}{H:Hp}{s:Shared}
end
section
variable {P:Program}{w:World}{K:PySem.W.Frag}{mg:Str→Option Value}{base:Heap}{N:List Str}{qual:Str}{scope:Scope}{f:Addr}{cd:Value}{A:Around}{outer:List Env}{s0:Shared}{H0:Hp}{E:XK}
end
end L2
namespace L2
open PySem PySem.Spec PyProof.Rows
noncomputable def gA (K:PySem.W.Frag) (x:Str):Addr:=match PySem.W.nsIn K mainGlobals x with | some (some (.ref c))=>c | _=>0
theorem zdU_ {K:PySem.W.Frag}{x:Str}{c:Addr}(h:PySem.W.nsIn K mainGlobals x=some (some (.ref c))):gA K x=c:=by unfold gA; rw [h]
section
variable {X:Cx}{E:XK}{C:Addr}{x:Str}{e:Expr}{es:List Expr}{t:TA}{np cpos pos:Pos}
end
section
variable {X:Cx}{a:Expr}{ta:TE}{pos:Pos}
noncomputable def mFmt:V→Hp→VK→Prop:=fun x H Q=>match x with | .str z=>z.length≤sizeLine∧Q (.str z) H | .int i=>i.natAbs.log2<1920∧Q (tx (strI i)) H | _=>False
theorem zoa_ (ha:PE X a ta):PE X (.FormattedValue a (-1) none pos) (tUn mFmt ta):=by
 intro pins s σ H Q I h
 refine wpAny_FormattedValue_plain (thn (ha pins s σ H _ I h) fun v s1 ⟨x,H1,I1,r1,q1⟩=>?_)
 cases x with
 | str z =>
  obtain ⟨k,rfl⟩:=r1
  exact wpAny_formatField_str ⟨.str z,H1,I1,⟨_,rfl⟩,q1.2⟩ ⟨.str z,H1,I1.tok _,⟨_,rfl⟩,q1.2⟩ q1.1
 | int i =>
  obtain ⟨k,rfl⟩:=r1
  refine wpAny_formatField_int q1.1 ⟨tx (strI i),H1,I1.tok _,⟨s1.toks+1,?_⟩,q1.2⟩
  unfold strI
  rw [← zbN_]
 | _=>exact q1.elim
noncomputable abbrev TJ:=Str→St→Hp→(Str→Hp→Prop)→Prop
noncomputable def PJ (X:Cx) (vs:List Expr) (t:TJ):Prop:=∀ (acc:Str) (pins:List (Addr×Obj)) (s:Shared) (σ:St) (H:Hp) (Q:Str→Shared→Prop) (R:Str→Hp→Prop),Inv X pins σ H s→t acc σ H R→(∀ out s1 H1,Inv X pins σ H1 s1→R out H1→Q out s1) →
 Joins (model X.prog X.w) X.A X.xe (evalEach vs X.env) acc Q s
noncomputable def tJ0:TJ:=fun acc _ H R=>R acc H
noncomputable def tJ1 (ta:TE) (tr:TJ):TJ:=fun acc σ H R=>ta σ H fun x H1=>match x with | .str z=>(acc++z).length≤sizeLine∧tr (acc++z) σ H1 R | _=>False
theorem zpk_:PJ X [] tJ0:=fun acc pins s σ H Q R I h hq=>hq acc s H I h
theorem zkx_ {vs:List Expr}{tr:TJ}(ha:PE X a ta) (hr:PJ X vs tr) (he:evalEach (a::vs) X.env=eval a X.env::evalEach vs X.env:=by rfl):PJ X (a::vs) (tJ1 ta tr):=by
 intro acc pins s σ H Q R I h hq
 rw [he]
 refine wpAny_mono (ha pins s σ H _ I h) (fun v s1 q=>?_) fun _ _ y=>y
 obtain ⟨x,H1,I1,r1,q1⟩:=q
 cases x with
 | str z =>
  obtain ⟨k,rfl⟩:=r1
  exact ⟨z,k,rfl,q1.1,hr (acc++z) pins s1 σ H1 Q R I1 q1.2 hq⟩
 | _=>exact q1.elim
noncomputable def tJoin (tj:TJ):TE:=fun σ H Q=>tj Str.empty σ H fun out H1=>out.length≤sizeLine∧Q (.str out) H1
theorem zlx_ {b:Expr}{vs:List Expr}{tj:TJ}(h:PJ X (a::b::vs) tj):PE X (.JoinedStr (a::b::vs) pos) (tJoin tj):=by
 intro pins s σ H Q I q
 refine wpAny_JoinedStr (h Str.empty pins s σ H _ _ I q fun out s1 H1 I1 q1=>⟨q1.1,.str out,H1,I1.tok _,⟨_,rfl⟩,q1.2⟩)
end
end L2
namespace LX
open PySem PySem.W PySem.Calls PyProof.Rows Builtin Builtin.ObjectAttr Builtin.Getset_descriptor
section
variable {prog:Program}{w:World}{A:Around}{K:Frag}{x D:Addr}
end
end LX
namespace L2
open PySem PySem.Spec PyProof.Rows
end L2
namespace L2
open PySem PySem.Spec PyProof.Rows
section
variable {X:Cx}{k:Nat}{x:Str}{ps:List Str}{sp:Sp}{E:XK}{p pos:Pos}{e:Expr}{es:List Expr}{t:TA}
end
noncomputable def XP (X:Cx) (pins:List (Addr×Obj)) (W:St→XK) (e:Value) (s':Shared):Prop:=∃ σ' Hb sb,Inv X pins σ' Hb sb∧CXx X.prog X.w X.stack Hb sb (W σ') e s'
noncomputable abbrev TX:=Ends→(St→XK)→St→Hp→Prop
section
variable {X:Cx}{st:Stmt}{rest:List Stmt}{t u:TX}{k:Nat}{x:Str}{ps:List Str}{sp:Sp}{p pos pos':Pos}{e:Expr}{es:List Expr}{ta:TA}
end
section
variable {X:Cx}{pins:List (Addr×Obj)}{σ:St}{Hb H':Hp}{sb s1:Shared}{x T C:Addr}
end
end L2
namespace L2
open PySem PySem.Spec PyProof.Rows
section
variable {X:Cx}{body:List Stmt}{tb:TX}{ts:TS}{S:Addr}{sx n:Str}{i:Nat}{b₀:Stmt}{suite:List Stmt}{np hpos pos:Pos}
end
end L2
namespace L2
open PySem PySem.Spec PyProof.Rows
section
variable {P:Program}{w:World}{K:PySem.W.Frag}{mg:Str→Option Value}{base:Heap}
end
section
variable {X:Cx}{k:Nat}{x:Str}{ps:List Str}{sp:Sp}{p pos:Pos}{e:Expr}{es:List Expr}{t:TA}
end
end L2
namespace L2
open PySem PySem.Spec PyProof.Rows
section
variable {X:Cx}{k:Nat}{x:Str}{ps:List Str}{sp:Sp}{p pos pos':Pos}{e:Expr}{es:List Expr}{ta:TA}{i:Nat}{y:Str}{py:Pos}
end
noncomputable def SG:List Nat:=[32,48,49,50,51,52,53,54,55,56,57,65,66,67,68,69,70,71,72,73,74,75,76,77,78,79,80,81,82,83,84,85,86,87,88,89,90]
noncomputable def rk (l:List Nat):Option Nat:=match l with | [c]=>SG.findIdx? (· == c) | _=>none
end L2
namespace L2
open PySem PySem.Spec PyProof.Rows
section
variable {X:Cx}
end
section
variable {X:Cx}
noncomputable def intsV (lo hi:Int):List V:=(List.range (hi-lo).toNat).map fun (i:Nat)=>V.int (lo+i)
noncomputable def mList (K:PySem.W.Frag):List V→Hp→VK→Prop:=fun xs H Q=>match xs with
 | [.ref p]=>(∃ ys,(SqL K H p ys∨SqT K H p ys)∧∀ l,H l=none→Q (.ref l) (upd H l (.lst ys))) ∨
   (∃ lo hi,H p=some (.rng lo hi)∧(-50000≤lo∧lo≤50000 ∧ -50000≤hi∧hi≤50000)∧∀ l,H l=none→Q (.ref l) (upd H l (.lst (intsV lo hi))))
 | _=>False
theorem zm5_ {lo:Int}:∀ {n:Nat}{us:List Value},us.length=n→(∀ (j:Nat) (v:Value),us[j]?=some v→∃ t,v=Value.int (lo+j) t)→Vals ((List.range n).map fun (i:Nat)=>V.int (lo+i)) us
 | n,us,hl,h=>by
  refine paired_of (by rw [List.length_map,List.length_range,hl]) fun j x u hx hu=>?_
  rw [List.getElem?_map] at hx
  cases e:(List.range n)[j]? with
  | none=>rw [e] at hx; cases hx
  | some i =>
   rw [e] at hx; cases hx
   have:=List.getElem?_eq_some_iff.mp e
   obtain ⟨hj,ej⟩:=this
   rw [List.getElem_range] at ej
   subst ej
   exact h j u hu
 where paired_of:∀ {xs:List V}{us:List Value},xs.length=us.length→(∀ (j:Nat) x u,xs[j]?=some x→us[j]?=some u→RelV x u)→Vals xs us
 | [],[],_,_=>.nil
 | x::xs,u::us,hl,h=>.cons (h 0 x u rfl rfl) (paired_of (Nat.succ.inj hl) fun j x u a b=>h (j+1) x u a b)
theorem zde_ (hc:X.calm=true):CallR X (.type "list") (mList X.K):=by
 intro pins s σ H xs us Q I r h
 unfold mList at h
 split at h
 ·rename_i p
  rcases h with ⟨ys,hq,q⟩ | ⟨lo,hi,hp,⟨h1,h2,h3,h4⟩,q⟩
  ·exact zh3_ pins s σ H _ us Q I r ⟨p,ys,rfl,hq,q⟩
  ·obtain ⟨u,rfl,rx⟩:=vals1 r
   cases rx
   obtain ⟨t,u,v,e⟩:=I.hok p _ hp
   have hn:Builtin.Range.rangeSize lo hi 1=(((hi-lo).toNat:Nat):Int):=by rw [rangeSize_one]; split<;>omega
   refine call_list_range (I.ok.hd hc) e (small_one (by omega) (by omega) (by omega) (by omega)) hn (by omega) fun h' tk acc c' kp e' ⟨hs,hi'⟩=>?_
   refine ⟨.ref s.heap.objs.size,_,I.laid (o:=.lst (intsV lo hi)) (t':=tk) kp (Nat.le_refl _) ?_,rfl,q _ (I.hok.fresh (Nat.le_refl _))⟩
   refine ⟨?_,acc.toList,c',zm5_ (by simpa using hs) (fun j v hv=>?_),by simpa using e'⟩
   ·unfold intsV; rw [List.length_map,List.length_range]; exact zeu_ (by omega)
   ·obtain ⟨t,ht⟩:=hi' j v (by simpa using hv)
    exact ⟨t,by rw [ht]; simp⟩
 ·exact h.elim
end
inductive EqD (K:PySem.W.Frag) (H:Hp):Nat→V→V→Bool→Prop
 | flat {x y:V}(hx:flatV x=true) (hy:flatV y=true):EqD K H 0 x y (eqV x y)
 | lst {n:Nat}{p q:Addr}{xs ys:List V}(e:Nat→Bool) (hp:SqL K H p xs) (hq:SqL K H q ys) (hl:xs.length=ys.length) (h:∀ (i:Nat) x y,xs[i]?=some x→ys[i]?=some y→EqD K H n x y (e i)):EqD K H (n+1) (.ref p) (.ref q) ((List.range xs.length).all e)
 | lstN {n:Nat}{p q:Addr}{xs ys:List V}(hp:SqL K H p xs) (hq:SqL K H q ys) (hl:xs.length≠ys.length):EqD K H n (.ref p) (.ref q) false
 | tup {n:Nat}{p q:Addr}{xs ys:List V}(e:Nat→Bool) (hp:SqT K H p xs) (hq:SqT K H q ys) (h:∀ (i:Nat) x y,xs[i]?=some x→ys[i]?=some y→EqD K H n x y (e i)):EqD K H (n+1) (.ref p) (.ref q) ((List.range (min xs.length ys.length)).all e && xs.length == ys.length)
 | lt {n:Nat}{p q:Addr}{xs ys:List V}(hp:SqL K H p xs) (hq:SqT K H q ys):EqD K H n (.ref p) (.ref q) false
 | tl {n:Nat}{p q:Addr}{xs ys:List V}(hp:SqT K H p xs) (hq:SqL K H q ys):EqD K H n (.ref p) (.ref q) false
 | lf {n:Nat}{p:Addr}{xs:List V}{y:V}(hp:SqL K H p xs) (hy:flatV y=true):EqD K H n (.ref p) y false
 | fl {n:Nat}{p:Addr}{xs:List V}{y:V}(hp:SqL K H p xs) (hy:flatV y=true):EqD K H n y (.ref p) false
 | tf {n:Nat}{p:Addr}{xs:List V}{y:V}(hp:SqT K H p xs) (hy:flatV y=true):EqD K H n (.ref p) y false
 | ft {n:Nat}{p:Addr}{xs:List V}{y:V}(hp:SqT K H p xs) (hy:flatV y=true):EqD K H n y (.ref p) false
 | up {n:Nat}{x y:V}{b:Bool}(h:EqD K H n x y b):EqD K H (n+1) x y b
section
variable {X:Cx}{pins:List (Addr×Obj)}{σ:St}{H:Hp}{s:Shared}
theorem zev_ {xs:List V}{us:List Value}(r:Vals xs us) {i:Nat}(h:i<us.toArray.size):∃ x,xs[i]?=some x∧RelV x us.toArray[i]:=by
 have hi:i<us.length:=by simpa using h
 have hl:=r.length
 obtain ⟨u,hu,ru⟩:=r.get (List.getElem?_eq_getElem (show i<xs.length by omega))
 refine ⟨_,List.getElem?_eq_getElem (by omega),?_⟩
 rw [List.getElem?_eq_getElem hi] at hu
 cases hu
 simpa using ru
theorem zjm_ (I:Inv X pins σ H s) {n:Nat}{x y:V}{b:Bool}(h:EqD X.K H n x y b):x=y→b=true:=by
 induction h with
 | flat hx hy =>
  rename_i x y
  rintro rfl
  cases x<;>first | (cases hx; done) | (simp [eqV]; done) | rfl
 | lst e hp hq hl h ih =>
  rename_i n p q xs ys
  intro e0
  cases e0
  have exy:=I.list_inj hp hq
  subst exy
  rw [List.all_eq_true]
  intro i hi
  have hi:=List.mem_range.mp hi
  exact ih i _ _ (List.getElem?_eq_getElem hi) (List.getElem?_eq_getElem hi) rfl
 | lstN hp hq hl =>
  intro e0
  cases e0
  exact absurd (by rw [I.list_inj hp hq]) hl
 | tup e hp hq h ih =>
  rename_i n p q xs ys
  intro e0
  cases e0
  have exy:=I.tuple_inj hp hq
  subst exy
  rw [Bool.and_eq_true,List.all_eq_true]
  refine ⟨?_,by simp⟩
  intro i hi
  have hi:=List.mem_range.mp hi
  have hi:i<xs.length:=by omega
  exact ih i _ _ (List.getElem?_eq_getElem hi) (List.getElem?_eq_getElem hi) rfl
 | lt hp hq =>
  intro e0
  cases e0
  obtain ⟨its,r1,p1,z1⟩:=I.list hp
  obtain ⟨its2,r2,p2,z2⟩:=I.tuple hq
  exact absurd rfl (SeqAt.ne_of_list_tuple p1.isList p2)
 | tl hp hq =>
  intro e0
  cases e0
  obtain ⟨its,r1,p1,z1⟩:=I.tuple hp
  obtain ⟨its2,r2,p2,z2⟩:=I.list hq
  exact absurd rfl (SeqAt.ne_of_list_tuple p2.isList p1)
 | lf hp hy=>rintro rfl; cases hy
 | fl hp hy=>rintro rfl; cases hy
 | tf hp hy=>rintro rfl; cases hy
 | ft hp hy=>rintro rfl; cases hy
 | up h ih=>exact ih
theorem zmA_ (I:Inv X pins σ H s) {n:Nat}{x y:V}{b:Bool}(h:EqD X.K H n x y b):∀ (A:Around) (v u:Value),A.units+n<cLine→RelV x v→RelV y u →
  SeqAt.EqAt A s v u b∧(∀ p q,x=.ref p→y=.ref q→SeqAt.RcAt A s v u b):=by
 induction h with
 | flat hx hy =>
  intro A v u _ rx ry
  refine ⟨zo3_ rx ry hx hy,fun p q e _=>?_⟩
  subst e; cases hx
 | lst e hp hq hl h ih =>
  rename_i n p q xs ys
  intro A v u hu rx ry
  cases rx; cases ry
  obtain ⟨its,r1,p1,z1⟩:=I.list hp
  obtain ⟨its2,r2,p2,z2⟩:=I.list hq
  have l1:=r1.length
  have l2:=r2.length
  have rc:SeqAt.RcAt A s (.ref p) (.ref q) ((List.range xs.length).all e):=by
   have:=SeqAt.RcAt.lists (A:=A) (e:=e) p1.isList p2.isList (by simp only [List.size_toArray]; omega) (by omega) (fun j h1 h2=>by
    obtain ⟨x,ex,rx⟩:=zev_ r1 h1
    obtain ⟨y,ey,ry⟩:=zev_ r2 h2
    exact (ih j x y ex ey A.in1 _ _ (by show A.units+1+n<_; omega) rx ry).1)
   rw [List.size_toArray,← l1] at this
   exact this
  refine ⟨?_,fun _ _ _ _=>rc⟩
  by_cases hpq:p=q
  ·subst hpq
   have exy:=I.list_inj hp hq
   subst exy
   have:(List.range xs.length).all e=true:=by
    rw [List.all_eq_true]
    intro i hi
    have hi:=List.mem_range.mp hi
    exact zjm_ I (h i _ _ (List.getElem?_eq_getElem hi) (List.getElem?_eq_getElem hi)) rfl
   rw [this]
   exact SeqAt.EqAt.same _
  ·exact .of_refs hpq rc
 | lstN hp hq hl =>
  rename_i n p q xs ys
  intro A v u hu rx ry
  cases rx; cases ry
  obtain ⟨its,r1,p1,z1⟩:=I.list hp
  obtain ⟨its2,r2,p2,z2⟩:=I.list hq
  have l1:=r1.length
  have l2:=r2.length
  have rc:SeqAt.RcAt A s (.ref p) (.ref q) false:=SeqAt.RcAt.lists_lengths p1.isList p2.isList (by simp only [List.size_toArray,bne_iff_ne,ne_eq]; omega) (by omega)
  refine ⟨.of_refs (fun e=>?_) rc,fun _ _ _ _=>rc⟩
  subst e
  exact hl (by rw [I.list_inj hp hq])
 | tup e hp hq h ih =>
  rename_i n p q xs ys
  intro A v u hu rx ry
  cases rx; cases ry
  obtain ⟨its,r1,p1,z1⟩:=I.tuple hp
  obtain ⟨its2,r2,p2,z2⟩:=I.tuple hq
  have l1:=r1.length
  have l2:=r2.length
  have rc:SeqAt.RcAt A s (.ref p) (.ref q) ((List.range (min xs.length ys.length)).all e && xs.length == ys.length):=by
   have:=SeqAt.RcAt.tuples (A:=A) (e:=e) (show s.heap.IsTuple p its.toArray from p1) (show s.heap.IsTuple q its2.toArray from p2) (by omega) (fun j h1 h2=>by
    obtain ⟨x,ex,rx⟩:=zev_ r1 h1
    obtain ⟨y,ey,ry⟩:=zev_ r2 h2
    exact (ih j x y ex ey A.in1 _ _ (by show A.units+1+n<_; omega) rx ry).1)
   rw [List.size_toArray,List.size_toArray,← l1,← l2] at this
   exact this
  refine ⟨?_,fun _ _ _ _=>rc⟩
  by_cases hpq:p=q
  ·subst hpq
   have exy:=I.tuple_inj hp hq
   subst exy
   have:((List.range (min xs.length xs.length)).all e && xs.length == xs.length)=true:=by
    rw [Bool.and_eq_true,List.all_eq_true]
    refine ⟨?_,by simp⟩
    intro i hi
    have hi:=List.mem_range.mp hi
    have hi:i<xs.length:=by omega
    exact zjm_ I (h i _ _ (List.getElem?_eq_getElem hi) (List.getElem?_eq_getElem hi)) rfl
   rw [this]
   exact SeqAt.EqAt.same _
  ·exact .of_refs hpq rc
 | lt hp hq =>
  intro A v u hu rx ry
  cases rx; cases ry
  obtain ⟨its,r1,p1,z1⟩:=I.list hp
  obtain ⟨its2,r2,p2,z2⟩:=I.tuple hq
  exact ⟨.list_tuple p1.isList p2 (by omega),fun _ _ _ _=>.list_tuple p1.isList p2 (by omega)⟩
 | tl hp hq =>
  intro A v u hu rx ry
  cases rx; cases ry
  obtain ⟨its,r1,p1,z1⟩:=I.tuple hp
  obtain ⟨its2,r2,p2,z2⟩:=I.list hq
  exact ⟨.tuple_list p1 p2.isList (by omega),fun _ _ _ _=>.tuple_list p1 p2.isList (by omega)⟩
 | lf hp hy =>
  rename_i n p xs y
  intro A v u hu rx ry
  cases rx
  obtain ⟨its,r1,p1,z1⟩:=I.list hp
  refine ⟨?_,fun _ _ _ e=>by subst e; cases hy⟩
  cases y with
  | non=>cases ry; exact .list_none p1.isList (by omega)
  | bl b=>cases ry; exact .list_bool b p1.isList (by omega)
  | int b=>obtain ⟨t,rfl⟩:=ry; exact .list_int b t p1.isList (by omega)
  | str b=>obtain ⟨t,rfl⟩:=ry; exact .list_str b t p1.isList (by omega)
  | _=>cases hy
 | fl hp hy =>
  rename_i n p xs y
  intro A v u hu rx ry
  cases ry
  obtain ⟨its,r1,p1,z1⟩:=I.list hp
  refine ⟨?_,fun _ _ e _=>by subst e; cases hy⟩
  cases y with
  | non=>cases rx; exact .none_list p1.isList (by omega)
  | bl b=>cases rx; exact .bool_list b p1.isList (by omega)
  | int b=>obtain ⟨t,rfl⟩:=rx; exact .int_list b t p1.isList (by omega)
  | str b=>obtain ⟨t,rfl⟩:=rx; exact .str_list b t p1.isList (by omega)
  | _=>cases hy
 | tf hp hy =>
  rename_i n p xs y
  intro A v u hu rx ry
  cases rx
  obtain ⟨its,r1,p1,z1⟩:=I.tuple hp
  refine ⟨?_,fun _ _ _ e=>by subst e; cases hy⟩
  cases y with
  | non=>cases ry; exact .tuple_none p1 (by omega)
  | bl b=>cases ry; exact .tuple_bool b p1 (by omega)
  | int b=>obtain ⟨t,rfl⟩:=ry; exact .tuple_int b t p1 (by omega)
  | str b=>obtain ⟨t,rfl⟩:=ry; exact .tuple_str b t p1 (by omega)
  | _=>cases hy
 | ft hp hy =>
  rename_i n p xs y
  intro A v u hu rx ry
  cases ry
  obtain ⟨its,r1,p1,z1⟩:=I.tuple hp
  refine ⟨?_,fun _ _ e _=>by subst e; cases hy⟩
  cases y with
  | non=>cases rx; exact .none_tuple p1 (by omega)
  | bl b=>cases rx; exact .bool_tuple b p1 (by omega)
  | int b=>obtain ⟨t,rfl⟩:=rx; exact .int_tuple b t p1 (by omega)
  | str b=>obtain ⟨t,rfl⟩:=rx; exact .str_tuple b t p1 (by omega)
  | _=>cases hy
 | up h ih =>
  intro A v u hu rx ry
  exact ih A v u (by omega) rx ry
end
section
variable {X:Cx}
noncomputable def mEqK (K:PySem.W.Frag):R2:=fun x y H Q=>match x,y with
 | .ref p,.ref q=>∃ n b,n≤50∧EqD K H n (.ref p) (.ref q) b∧Q (.bl b) H
 | _,_=>mEq x y H Q
noncomputable def mNeK (K:PySem.W.Frag):R2:=fun x y H Q=>match x,y with
 | .ref p,.ref q=>∃ n b,n≤50∧EqD K H n (.ref p) (.ref q) b∧Q (.bl (!b)) H
 | _,_=>mNe x y H Q
theorem znI_ (hu:X.A.units+60<cLine):OpR X (compareOp .Eq) (mEqK X.K):=by
 intro pins s σ H x y v u Q I rx ry h
 unfold mEqK at h
 split at h
 ·rename_i p q
  obtain ⟨n,b,hn,h,q⟩:=h
  have:=(zmA_ I h X.A v u (by omega) rx ry).2 _ _ rfl rfl
  exact this X.prog X.w X.xe _ ⟨.bl b,H,I,rfl,q⟩
 ·exact zqz_ pins s σ H x y v u Q I rx ry h
end
section
variable {X:Cx}{pins:List (Addr×Obj)}{σ:St}{H:Hp}{s:Shared}
theorem zqd_ (I:Inv X pins σ H s) {n:Nat}{x y:V}{b:Bool}(h:EqD X.K H n x y b):∀ (A:Around) (v u:Value),A.units+n<cLine→RelV x v→RelV y u→∀ p q,x=.ref p→y=.ref q→SeqAt.RcNeAt A s v u (!b):=by
 induction h with
 | flat hx hy=>intro A v u _ rx ry p q e _; subst e; cases hx
 | lst e hp hq hl h ih =>
  rename_i n p q xs ys
  intro A v u hu rx ry _ _ _ _
  cases rx; cases ry
  obtain ⟨its,r1,p1,z1⟩:=I.list hp
  obtain ⟨its2,r2,p2,z2⟩:=I.list hq
  have l1:=r1.length
  have l2:=r2.length
  have:=SeqAt.RcNeAt.lists (A:=A) (e:=e) p1.isList p2.isList (by simp only [List.size_toArray]; omega) (by omega) (fun j h1 h2=>by
   obtain ⟨x,ex,rx⟩:=zev_ r1 h1
   obtain ⟨y,ey,ry⟩:=zev_ r2 h2
   exact (zmA_ I (h j x y ex ey) A.in1 _ _ (by show A.units+1+n<_; omega) rx ry).1)
  rw [List.size_toArray,← l1] at this
  exact this
 | lstN hp hq hl =>
  intro A v u hu rx ry _ _ _ _
  cases rx; cases ry
  obtain ⟨its,r1,p1,z1⟩:=I.list hp
  obtain ⟨its2,r2,p2,z2⟩:=I.list hq
  have l1:=r1.length
  have l2:=r2.length
  exact SeqAt.RcNeAt.lists_lengths p1.isList p2.isList (by simp only [List.size_toArray,bne_iff_ne,ne_eq]; omega) (by omega)
 | tup e hp hq h ih =>
  rename_i n p q xs ys
  intro A v u hu rx ry _ _ _ _
  cases rx; cases ry
  obtain ⟨its,r1,p1,z1⟩:=I.tuple hp
  obtain ⟨its2,r2,p2,z2⟩:=I.tuple hq
  have l1:=r1.length
  have l2:=r2.length
  have:=SeqAt.RcNeAt.tuples (A:=A) (e:=e) (show s.heap.IsTuple p its.toArray from p1) (show s.heap.IsTuple q its2.toArray from p2) (by omega) (fun j h1 h2=>by
   obtain ⟨x,ex,rx⟩:=zev_ r1 h1
   obtain ⟨y,ey,ry⟩:=zev_ r2 h2
   exact (zmA_ I (h j x y ex ey) A.in1 _ _ (by show A.units+1+n<_; omega) rx ry).1)
  rw [List.size_toArray,List.size_toArray,← l1,← l2] at this
  exact this
 | lt hp hq =>
  intro A v u hu rx ry _ _ _ _
  cases rx; cases ry
  obtain ⟨its,r1,p1,z1⟩:=I.list hp
  obtain ⟨its2,r2,p2,z2⟩:=I.tuple hq
  exact .list_tuple p1.isList p2 (by omega)
 | tl hp hq =>
  intro A v u hu rx ry _ _ _ _
  cases rx; cases ry
  obtain ⟨its,r1,p1,z1⟩:=I.tuple hp
  obtain ⟨its2,r2,p2,z2⟩:=I.list hq
  exact .tuple_list p1 p2.isList (by omega)
 | lf hp hy=>intro A v u hu rx ry _ _ _ e; subst e; cases hy
 | fl hp hy=>intro A v u hu rx ry _ _ e _; subst e; cases hy
 | tf hp hy=>intro A v u hu rx ry _ _ _ e; subst e; cases hy
 | ft hp hy=>intro A v u hu rx ry _ _ e _; subst e; cases hy
 | up h ih=>intro A v u hu rx ry; exact ih A v u (by omega) rx ry
theorem zlu_ (hu:X.A.units+60<cLine):OpR X (compareOp .NotEq) (mNeK X.K):=by
 intro pins s σ H x y v u Q I rx ry h
 unfold mNeK at h
 split at h
 ·rename_i p q
  obtain ⟨n,b,hn,h,q⟩:=h
  have:=zqd_ I h X.A v u (by omega) rx ry _ _ rfl rfl
  exact this X.prog X.w X.xe _ ⟨.bl (!b),H,I,rfl,q⟩
 ·exact zqe_ pins s σ H x y v u Q I rx ry h
end
theorem Room.u60 {k:Nat}{A:Around}(r:Room k A):A.units+60<cLine:=by have:=r.units; omega
end L2
namespace LX
open PySem Builtin Builtin.Str
section
variable {prog:Program}{w:World}{A:Around}{E:Value→Shared→Prop}{s:Shared}{x:Str}{t:Tok}{Q:Value→Shared→Prop}
end
end LX
namespace L2
open PySem PySem.Spec PyProof.Rows
section
variable {X:Cx}
end
section
variable {X:Cx}{a b c d:Expr}{ta tb tc td:TE}{pos:Pos}
end
end L2
namespace L2
open PySem PySem.Spec PyProof.Rows
section
variable {κ:Type} [DecidableEq κ]
noncomputable def valV (kvs:List (κ×V)) (k:κ):Option V:=(kvs.find? fun kv=>decide (kv.1=k)).map (·.2)
noncomputable def putK (kvs:List (κ×V)) (k:κ) (v:V):List (κ×V) :=
 if (kvs.any fun kv=>decide (kv.1=k))=true then kvs.map (fun kv=>if kv.1=k then (kv.1,v) else kv) else kvs++[(k,v)]
theorem zhU_ {p:κ×V}{r:List (κ×V)}{k:κ}(e:p.1=k):valV (p::r) k=some p.2:=by simp [valV,List.find?_cons,e]
theorem zhA_ {p:κ×V}{r:List (κ×V)}{k:κ}(e:¬ p.1=k):valV (p::r) k=valV r k:=by simp [valV,List.find?_cons,e]
theorem zkJ_ (k:κ):∀ kvs:List (κ×V),(kvs.any fun kv=>decide (kv.1=k))=(valV kvs k).isSome
 | []=>rfl
 | p::r=>by
  rw [List.any_cons]
  by_cases e:p.1=k
  ·simp only [zhU_ e,decide_eq_true e,Bool.true_or,Option.isSome_some]
  ·rw [zhA_ e,decide_eq_false e,Bool.false_or]; exact zkJ_ k r
theorem zfX_ (kvs:List (κ×V)) (k:κ) (v:V):(putK kvs k v).length≤kvs.length+1:=by
 unfold putK
 split
 ·rw [List.length_map]; omega
 ·rw [List.length_append,List.length_cons,List.length_nil]; omega
theorem RelO.isSome_eq {o:Option V}{u:Option Value}(r:RelO o u):o.isSome=u.isSome:=by
 cases o with
 | none=>cases u with
  | none=>rfl
  | some _=>exact (show False from r).elim
 | some _=>cases u with
  | none=>exact (show False from r).elim
  | some _=>rfl
theorem RelO.getD {o:Option V}{u:Option Value}{d:V}{d':Value}(r:RelO o u) (rd:RelV d d'):RelV (o.getD d) (u.getD d'):=by
 cases o with
 | none=>cases u with
  | none=>exact rd
  | some _=>exact (show False from r).elim
 | some _=>cases u with
  | none=>exact (show False from r).elim
  | some _=>exact r
theorem KV.val {kvs:List (κ×V)}{vs:List (κ×Value)}(r:KV kvs vs) (k:κ):RelO (valV kvs k) (valueAt vs k):=by
 unfold KV at r
 induction r with
 | nil=>exact True.intro
 | @cons p q ps qs h t ih =>
  obtain ⟨h1,h2⟩:=h
  by_cases e:p.1=k
  ·have e':q.1=k:=h1.symm.trans e
   have b:valueAt (q::qs) k=some q.2:=by simp [valueAt,List.find?_cons,e']
   rw [zhU_ e,b]; exact h2
  ·have e':¬ q.1=k:=fun z=>e (h1.trans z)
   have b:valueAt (q::qs) k=valueAt qs k:=by simp [valueAt,List.find?_cons,e']
   rw [zhA_ e,b]; exact ih
theorem KV.any {kvs:List (κ×V)}{vs:List (κ×Value)}(r:KV kvs vs) (k:κ):(kvs.any fun kv=>decide (kv.1=k))=vs.any fun kv=>decide (kv.1=k):=by
 unfold KV at r
 induction r with
 | nil=>rfl
 | cons h t ih=>rw [List.any_cons,List.any_cons,ih,h.1]
theorem KV.repl {kvs:List (κ×V)}{vs:List (κ×Value)}(r:KV kvs vs) (k:κ) {y:V}{u:Value}(ry:RelV y u) :
  KV (kvs.map fun kv=>if kv.1=k then (kv.1,y) else kv) (vs.map fun kv=>if kv.1=k then (kv.1,u) else kv):=by
 unfold KV at r ⊢
 induction r with
 | nil=>exact .nil
 | @cons p q ps qs h t ih =>
  rw [List.map_cons,List.map_cons]
  refine .cons ?_ ih
  obtain ⟨h1,h2⟩:=h
  by_cases e:p.1=k
  ·rw [if_pos e,if_pos (h1.symm.trans e)]; exact ⟨h1,ry⟩
  ·rw [if_neg e,if_neg (fun z=>e (h1.trans z))]; exact ⟨h1,h2⟩
theorem KV.put {kvs:List (κ×V)}{vs:List (κ×Value)}(r:KV kvs vs) (k:κ) {y:V}{u:Value}(ry:RelV y u):KV (putK kvs k y) (stored vs k u):=by
 unfold putK stored
 rw [r.any k]
 by_cases e:(vs.any fun kv=>decide (kv.1=k))=true
 ·rw [if_pos e,if_pos e]; exact r.repl k ry
 ·rw [if_neg e,if_neg e]; exact Paired.snoc r ⟨rfl,ry⟩
theorem KV.length {kvs:List (κ×V)}{vs:List (κ×Value)}(r:KV kvs vs):kvs.length=vs.length:=Paired.length r
end
theorem zpj_ {P:Program}{w:World}{k:Key}{u:Value}(r:RelV (kV k) u):(mixKind P w).is k u=true:=by
 cases k with
 | inl i=>obtain ⟨t,e⟩:=(show ∃ t,u=Value.int i t from r); subst e; exact ziG_ P w i t
 | inr x=>obtain ⟨t,e⟩:=(show ∃ t,u=Value.str x t from r); subst e; exact ziO_ P w x t
theorem zib_ {P:Program}{w:World}:∀ {ks:List Key}{us:List Value},Vals (ks.map kV) us→ItemsAre (mixKind P w) ks us
 | [],_,r=>by rw [List.map_nil] at r; cases r; exact .nil
 | k::ks,_,r=>by
  rw [List.map_cons] at r
  cases r with
  | cons h t=>exact .cons (zpj_ h) (zib_ t)
noncomputable abbrev KT (H:Hp):List (List Key×V)→List (List Key×Addr×Value)→Prop:=Paired fun p q=>p.1=q.1∧H q.2.1=some (.tup (p.1.map kV))∧RelV p.2 q.2.2
theorem KT.val {H:Hp}{kvs:List (List Key×V)}{xs:List (List Key×Addr×Value)}(r:KT H kvs xs) (k:List Key):RelO (valV kvs k) ((atKey xs k).map (·.2)):=by
 induction r with
 | nil=>exact True.intro
 | @cons p q ps qs h t ih =>
  obtain ⟨h1,_,h2⟩:=h
  by_cases e:p.1=k
  ·have e':q.1=k:=h1.symm.trans e
   have b:atKey (q::qs) k=some q.2:=by simp [atKey,List.find?_cons,e']
   rw [zhU_ e,b]; exact h2
  ·have e':¬ q.1=k:=fun z=>e (h1.trans z)
   have b:atKey (q::qs) k=atKey qs k:=by simp [atKey,List.find?_cons,e']
   rw [zhA_ e,b]; exact ih
theorem KT.repl {H:Hp}{kvs:List (List Key×V)}{xs:List (List Key×Addr×Value)}(r:KT H kvs xs) (k:List Key) {y:V}{u:Value}(ry:RelV y u) :
  KT H (kvs.map fun kv=>if kv.1=k then (kv.1,y) else kv) (xs.map (putAt k u)):=by
 induction r with
 | nil=>exact .nil
 | @cons p q ps qs h t ih =>
  rw [List.map_cons,List.map_cons]
  refine .cons ?_ ih
  obtain ⟨h1,h2,h3⟩:=h
  unfold putAt
  by_cases e:p.1=k
  ·rw [if_pos e,if_pos (h1.symm.trans e)]; exact ⟨h1,h2,ry⟩
  ·rw [if_neg e,if_neg (fun z=>e (h1.trans z))]; exact ⟨h1,h2,h3⟩
theorem KT.put {H:Hp}{kvs:List (List Key×V)}{xs:List (List Key×Addr×Value)}(r:KT H kvs xs) (k:List Key) {b:Addr}{y:V}{u:Value}(hb:H b=some (.tup (k.map kV))) (ry:RelV y u) :
  KT H (putK kvs k y) (storedH xs k b u):=by
 have e:(kvs.any fun kv=>decide (kv.1=k))=(atKey xs k).isSome:=by
  rw [zkJ_,(r.val k).isSome_eq,Option.isSome_map]
 unfold putK storedH
 rw [e]
 by_cases q:(atKey xs k).isSome=true
 ·rw [if_pos q,if_pos q]; exact r.repl k ry
 ·rw [if_neg q,if_neg q]; exact Paired.snoc r ⟨rfl,hb,ry⟩
theorem KT.keeps {H H':Hp}{kvs:List (List Key×V)}{xs:List (List Key×Addr×Value)}(r:KT H kvs xs) (ht:∀ b ys,H b=some (.tup ys)→H' b=some (.tup ys)):KT H' kvs xs :=
 Paired.mapP r fun _ _ z=>⟨z.1,ht _ _ z.2.1,z.2.2⟩
section
variable {P:Program}{w:World}{H:Hp}{h:Heap}{a:Addr}
theorem rd_of {u:HO}(ok:HOk P w H h) (e:Rd H a u):ObjOk P w H h a u:=e.ok ok
theorem znF_ {kvs:List (Key×V)}(ok:HOk P w H h) (e:Rd H a (.dK kvs)):kvs.length≤sizeLine∧(a == sysModules)=false∧∃ vs,KV kvs vs∧h.DictOf (mixKind P w) a vs :=
 show ObjOk P w H h a (.dK kvs) from rd_of ok e
theorem dk_of {kvs:List (Key×V)}(ok:HOk P w H h) (e:H a=some (.dK kvs)):kvs.length≤sizeLine∧(a == sysModules)=false∧∃ vs,KV kvs vs∧h.DictOf (mixKind P w) a vs:=znF_ ok (.inl e)
theorem zlD_ {ks:List Key}(ok:HOk P w H h) (e:H a=some (.tup (ks.map kV))):(tupleKind (mixKind P w)).is h ks a:=by
 obtain ⟨_,its,r,o,h1,h2,n,h3⟩:=(show ObjOk P w H h a (.tup (ks.map kV)) from ok a _ e)
 exact ⟨o,its.toArray,n,h1,h2,h3,by simpa using zib_ r⟩
theorem zpb_ {kvs:List (List Key×V)}(ok:HOk P w H h) (e:Rd H a (.dT kvs)):kvs.length≤sizeLine∧(a == sysModules)=false ∧
  ∃ xs,KT H kvs xs∧h.DictOfH (tupleKind (mixKind P w)) a xs:=by
 obtain ⟨z,y,xs,r,o,es,ep,h1,h2,h3,h4,h5⟩:=(show ObjOk P w H h a (.dT kvs) from rd_of ok e)
 refine ⟨z,y,xs,r,o,es,ep,h1,h2,h3,h4,fun x hx=>?_,h5⟩
 have all:∀ {l:List (List Key×V)}{m:List (List Key×Addr×Value)},KT H l m→∀ x∈m,(tupleKind (mixKind P w)).is h x.1 x.2.1:=by
  intro l m q
  induction q with
  | nil=>intro x hx; exact nomatch hx
  | @cons p q ps qs hq t ih =>
   intro x hx
   rcases List.mem_cons.mp hx with e | hx
   ·subst e
    exact zlD_ ok (by rw [← hq.1]; exact hq.2.1)
   ·exact ih x hx
 exact all r x hx
theorem dt_of {kvs:List (List Key×V)}(ok:HOk P w H h) (e:H a=some (.dT kvs)):kvs.length≤sizeLine∧(a == sysModules)=false ∧
  ∃ xs,KT H kvs xs∧h.DictOfH (tupleKind (mixKind P w)) a xs:=zpb_ ok (.inl e)
end
noncomputable def DGet (H:Hp) (a:Addr) (y:V) (r:Option V):Prop :=
 (∃ kvs k,Rd H a (.dK kvs)∧y=kV k∧r=valV kvs k)∨∃ kvs k b,Rd H a (.dT kvs)∧y=.ref b∧H b=some (.tup (k.map kV))∧r=valV kvs k
noncomputable def DPut (H:Hp) (a:Addr) (y v:V) (H':Hp):Prop :=
 (∃ kvs k,H a=some (.dK kvs)∧y=kV k∧kvs.length<sizeLine∧H'=upd H a (.dK (putK kvs k v))) ∨
 ∃ kvs k b,H a=some (.dT kvs)∧y=.ref b∧H b=some (.tup (k.map kV))∧kvs.length<sizeLine∧H'=upd H a (.dT (putK kvs k v))
theorem DGet.k {H:Hp}{a:Addr}{kvs:List (Key×V)}{k:Key}(e:H a=some (.dK kvs)):DGet H a (kV k) (valV kvs k):=.inl ⟨kvs,k,.inl e,rfl,rfl⟩
theorem DPut.k {H:Hp}{a:Addr}{kvs:List (Key×V)}{k:Key}{v:V}(e:H a=some (.dK kvs)) (hl:kvs.length<sizeLine):DPut H a (kV k) v (upd H a (.dK (putK kvs k v))):=.inl ⟨kvs,k,e,rfl,hl,rfl⟩
section
variable {X:Cx}{pins:List (Addr×Obj)}{σ:St}{H:Hp}{s:Shared}{a:Addr}{y v:V}{u r:Value}{o:Option V}{A:Around}{E:Value→Shared→Prop}
theorem Inv.big (I:Inv X pins σ H s):sysModules<s.heap.objs.size:=by
 have h:mainGlobals<s.heap.objs.size:=(I.mod.glob.keeps I.bk).lt
 exact Nat.lt_trans (by decide) h
theorem zl3_ {h':Heap}{t':Nat}{ob:HO}(I:Inv X pins σ H s) (mu:Mut (H a)) (hs:Heap.SameBut a s.heap h') (he:∃ q,h'.get? a=some q) (new:ObjOk X.prog X.w (upd H a ob) h' a ob) :
  Inv X pins σ (upd H a ob) { s with heap:=h',toks:=t' } :=
 I.write (x:=a) (e:=a) mu (.inl rfl) (fun b q hb z=>(hs.2 b hb).trans z) he new
theorem zqy_ {P:Program}{w:World}{H':Hp}{h':Heap}{kvs:List (Key×V)}{vs:List (Key×Value)}(z:kvs.length≤sizeLine) (hd:(a == sysModules)=false) (rel:KV kvs vs) (dd:h'.DictOf (mixKind P w) a vs) :
  ObjOk P w H' h' a (.dK kvs):=⟨z,hd,vs,rel,dd⟩
theorem zkZ_ {H':Hp}{Q:Unit→Shared→Prop}(hu:A.units+1<cLine) (I:Inv X pins σ H s) (g:DPut H a y v H') (ry:RelV y u) (rv:RelV v r) (h:∀ s',Inv X pins σ H' s'→Q () s') :
  wpAny (model X.prog X.w) A (setItem (.ref a) u r) Q E s:=by
 rcases g with ⟨kvs,k,e,ey,l,eH⟩ | ⟨kvs,k,b,e,ey,eb,l,eH⟩
 ·subst ey eH
  obtain ⟨z,hd,vs,rel,dd⟩:=dk_of I.hok e
  have hz:vs.length≤sizeLine:=by rw [← rel.length]; exact z
  have hl:(putK kvs k v).length≤sizeLine:=by have:=zfX_ kvs k v; omega
  refine wpAny_setItem_pairs (hsz:=hz) (zpj_ ry) dd fun h' dd' hs=>h _ ?_
  have he:∃ q,h'.get? a=some q:=let ⟨q,_,_,hq,_⟩:=dd'; ⟨q,hq⟩
  exact zl3_ I (by rw [e]; exact True.intro) hs he (zqy_ hl hd (rel.put k rv) dd')
 ·subst ey eH
  cases (show u=Value.ref b from ry)
  obtain ⟨z,hd,xs,rel,dd⟩:=dt_of I.hok e
  have hz:xs.length≤sizeLine:=by rw [← Paired.length rel]; exact z
  have hl:(putK kvs k v).length≤sizeLine:=by have:=zfX_ kvs k v; omega
  refine wpAny_setItem_heap (hsz:=hz) (tupleKind_room_in1 hu) (zlD_ I.hok eb) dd fun h' dd' hs=>h _ ?_
  obtain ⟨q,es,ep,hq,h2,h3,h4,_,h5⟩:=dd'
  refine zl3_ I (by rw [e]; exact True.intro) hs ⟨q,hq⟩ ⟨hl,hd,_,(rel.put k eb rv).keeps fun c ys ec=>?_,q,es,ep,hq,h2,h3,h4,h5⟩
  rw [zaT_ (ne_of ec e (fun z=>nomatch z))]
  exact ec
end
section
variable {X:Cx}{pins:List (Addr×Obj)}{σ:St}{H:Hp}{s:Shared}{a:Addr}{kvs:List (Key×V)}{k:Key}{u:Value}{A:Around}{E:Value→Shared→Prop}
end
section
variable {X:Cx}{o i e value:Expr}{pos pos' tpos:Pos}{td ty tv:TE}
end
theorem zne_ {P:Program}{w:World}{H:Hp}(h:Heap) (hb:sysModules<h.objs.size):ObjOk P w H (h.push { cls:=.type "dict",data:=.dict #[] }) h.objs.size (.dK []) :=
 ⟨Nat.zero_le _,beq_eq_false_iff_ne.mpr (Ne.symm (Nat.ne_of_lt hb)),[],.nil,Heap.DictOf.new h⟩
noncomputable def tDNewK:TE:=fun _ H Q=>∀ p,H p=none→Q (.ref p) (upd H p (.dK []))
section
variable {X:Cx}{pos:Pos}
theorem ziY_:PE X (.Dict [] [] pos) tDNewK:=fun pins s σ H Q I h =>
 wpAny_Dict_empty ⟨.ref s.heap.objs.size,_,I.laid (a:=s.heap.objs.size) (o:=.dK []) (t':=s.toks) (fun _ _ q=>Heap.get?_push_of_some _ q) (Nat.le_refl _) (zne_ s.heap I.big),rfl,h _ (I.hok.fresh (Nat.le_refl _))⟩
end
structure M2 (X:Cx) (o:Expr) (m:Str) (apos:Pos) (e f:Expr) (cpos:Pos):Prop where
 base:attributeBase o m X.env (eval o X.env)=eval o X.env
 few:((backTo cpos (starEach [e,f] X.env)).all (fun x=>!x.1) && (backToKw cpos (keywordEach [] X.env)).all (fun x=>x.1.isSome)
  && decide (([e,f]:List Expr).length+([]:List Keyword).length+(if ([]:List Keyword).isEmpty then 0 else 1)<30))=true
 line:(apos.endLine == cpos.line)=true
 trees:backTo cpos (starEach [e,f] X.env)=[(false,eval e X.env),(false,eval f X.env)]
noncomputable def IsD (H:Hp) (a:Addr):Prop:=(∃ kvs,Rd H a (.dK kvs))∨∃ kvs,Rd H a (.dT kvs)
theorem zqx_ {X:Cx}{pins:List (Addr×Obj)}{σ:St}{H:Hp}{s:Shared}{a:Addr}(I:Inv X pins σ H s) (d:IsD H a) :
  s.TypeIs (.ref a) "dict" ∧ (∀ b,Value.ref a=.ref b→∃ ob,s.heap.get? b=some ob∧ob.dict=none)∧(a == sysModules)=false:=by
 rcases d with ⟨kvs,e⟩ | ⟨kvs,e⟩
 ·obtain ⟨_,hd,vs,_,dd⟩:=znF_ I.hok e
  refine ⟨dd.typeIs,fun b q=>?_,hd⟩
  cases q
  obtain ⟨ob,_,_,h1,h2,_⟩:=dd
  exact ⟨ob,h1,h2.2.1⟩
 ·obtain ⟨_,hd,xs,_,dd⟩:=zpb_ I.hok e
  refine ⟨dd.typeIs,fun b q=>?_,hd⟩
  cases q
  obtain ⟨ob,_,_,h1,h2,_⟩:=dd
  exact ⟨ob,h1,h2.2.1⟩
section
variable {X:Cx}{pins:List (Addr×Obj)}{σ:St}{H:Hp}{s:Shared}{a:Addr}{y d:V}{u r:Value}{o:Option V}{A:Around}{E:Value→Shared→Prop}
theorem zqr_ {Q:Value→Shared→Prop}(hu:A.units+1<cLine) (I:Inv X pins σ H s) (g:DGet H a y o) (ry:RelV y u) (rd:RelV d r) (h:∀ w' s',Inv X pins σ H s'→RelV (o.getD d) w'→Q w' s') :
  wpAny (model X.prog X.w) A (call (.builtin "dict.get") [.ref a,u,r]) Q E s:=by
 rcases g with ⟨kvs,k,e,ey,l⟩ | ⟨kvs,k,b,e,ey,eb,l⟩
 ·subst ey
  obtain ⟨z,hd,vs,rel,dd⟩:=znF_ I.hok e
  refine call_meetsIn PySem.F.slot_dict_get dd.typeIs PySem.F.entry_dict_get (PySem.F.args_dict_get_3 _ _ _) (meets_dict_get_default (mixKind X.prog X.w) a (zpj_ ry) hd r) ⟨_,dd.mapOf,h _ _ (I.tok _) ?_⟩
  rw [l]
  exact (rel.val k).getD rd
 ·subst ey
  cases (show u=Value.ref b from ry)
  obtain ⟨z,hd,xs,rel,dd⟩:=zpb_ I.hok e
  refine call_meetsIn PySem.F.slot_dict_get dd.typeIs PySem.F.entry_dict_get (PySem.F.args_dict_get_3 _ _ _) (meetsH_dict_get_default (tupleKind (mixKind X.prog X.w)) a b hd r) ⟨tupleKind_room_in1 hu,k,xs,zlD_ I.hok eb,dd,h _ _ (I.tok _) ?_⟩
  rw [l]
  exact (rel.val k).getD rd
end
section
variable {X:Cx}{o e f:Expr}{apos cpos:Pos}{td ty tx:TE}
end
section
variable {X:Cx}{pins:List (Addr×Obj)}{σ:St}{H:Hp}{s:Shared}{a:Addr}{kvs:List (Key×V)}{A:Around}{E:Value→Shared→Prop}
end
section
variable {X:Cx}{pins:List (Addr×Obj)}{σ:St}{H:Hp}{s:Shared}{a:Addr}{y:V}{u:Value}{A:Around}{E:Value→Shared→Prop}
namespace L2
open PySem PySem.Spec PyProof.Rows
section
variable {X:Cx}
end
section
variable {κ:Type} [DecidableEq κ]
end
end L2
end
end L2
namespace L2
open PySem PySem.Spec PyProof.Rows
section
variable {X:Cx}
end
noncomputable def Itz (K:PySem.W.Frag) (l m:Addr):It :=
 ⟨fun i H=>∃ xs ys x y,SqL K H l xs∧SqL K H m ys∧xs[i]?=some x∧ys[i]?=some y,
  fun i H v H'=>∃ p x y,(∀ xs,SqL K H l xs→xs[i]?=some x)∧(∀ ys,SqL K H m ys→ys[i]?=some y)∧H p=none∧v=.ref p∧H'=upd H p (.tup [x,y]),
  fun i H=>∃ xs ys,SqL K H l xs∧SqL K H m ys∧(xs.length≤i∨ys.length≤i)⟩
theorem znw_ {P:Program}{w:World}{K:PySem.W.Frag}{elts:List Expr}{kk:Nat}{pos:Pos}(z TI TO i1 i2 l m:Addr) (D:ZipApart z TI TO i1 i2 l m) :
  Turn P w K (.Tuple elts kk pos) (Itz K l m) [z,TI,TO,i1,i2] z (fun i h=>IsZip h z TI TO .none∧IsPair h TI (.ref i1) (.ref i2)∧(∃ a b,IsPair h TO a b)∧h.IsListIter i1 l i∧h.IsListIter i2 m i) where
 mem:=by simp
 obj:=fun i h st b hb=>by
  obtain ⟨hz,hTI,⟨a,c,hTO⟩,⟨o1,ho1,c1,d1⟩,⟨o2,ho2,c2,d2⟩⟩:=st
  rcases List.mem_cons.mp hb with rfl | hb
  ·exact ⟨_,hz,fun v z=>by cases z⟩
  rcases List.mem_cons.mp hb with rfl | hb
  ·exact ⟨_,hTI,fun v z=>by cases z⟩
  rcases List.mem_cons.mp hb with rfl | hb
  ·exact ⟨_,hTO,fun v z=>by cases z⟩
  rcases List.mem_cons.mp hb with rfl | hb
  ·exact ⟨o1,ho1,fun v z=>by rw [d1] at z; cases z⟩
  ·have e:b=i2:=by simpa using hb
   subst e
   exact ⟨o2,ho2,fun v z=>by rw [d2] at z; cases z⟩
 keep:=fun i h h' st k=>by
  obtain ⟨hz,hTI,⟨a,c,hTO⟩,h1,h2⟩:=st
  exact ⟨k z (by simp) _ hz,k TI (by simp) _ hTI,⟨a,c,k TO (by simp) _ hTO⟩,h1.at fun o q=>k i1 (by simp) o q,h2.at fun o q=>k i2 (by simp) o q⟩
 item:=by
  intro X hP hw hK hc i pins s σ H E I hf st hg
  subst hP hw hK
  obtain ⟨xs,ys,x,y,hq,hq2,hx,hy⟩:=hg
  obtain ⟨its,rv,p,hz0⟩:=I.list hq
  obtain ⟨its2,rv2,p2,hz2⟩:=I.list hq2
  obtain ⟨u,hu,ru⟩:=rv.get hx
  obtain ⟨v,hv,rw'⟩:=rv2.get hy
  obtain ⟨hz,hTI,⟨a,c,hTO⟩,h1,h2⟩:=st
  have lt:∀ {c o},s.heap.get? c=some o→c<s.heap.objs.size:=fun e=>Heap.lt_size e
  have lz:=lt hz
  have lTI:=lt hTI
  have lTO:=lt hTO
  have l1:i1<s.heap.objs.size:=by obtain ⟨o,e,_⟩:=id h1; exact lt e
  have l2:i2<s.heap.objs.size:=by obtain ⟨o,e,_⟩:=id h2; exact lt e
  refine wpAny_pyNext_zip_item D hz hTI hTO h1 h2 p.isList p2.isList (x:=u) (y:=v) (by simpa using hu) (by simpa using hv) fun h3 z3 TO3 it13 it23 pr3 sz3 hk3=>?_
  refine ⟨_,rfl,?_⟩
  refine wpAny_letOwnedTupleGo_zip z3 fun h4 z4 hs4=>?_
  replace hs4:Heap.SameBut z h3 h4:=hs4
  have hp:H s.heap.objs.size=none:=I.hok.fresh (Nat.le_refl _)
  have I1:Inv X pins σ (upd H s.heap.objs.size (.tup [x,y])) { s with heap:=s.heap.push { cls:=.type "tuple",data:=.seq #[u,v] },toks:=s.toks }:=by
   refine I.laid (fun b u q=>Heap.get?_push_of_some _ q) (Nat.le_refl _) ⟨?_,[u,v],.cons ru (.cons rw' .nil),⟨_,Heap.get?_push_size _ rfl,rfl,_,rfl⟩⟩
   show 2≤sizeLine
   decide
  have hlt:∀ b∈[z,TI,TO,i1,i2],b<s.heap.objs.size:=fun b hb=>by
   rcases List.mem_cons.mp hb with rfl | hb
   ·exact lz
   rcases List.mem_cons.mp hb with rfl | hb
   ·exact lTI
   rcases List.mem_cons.mp hb with rfl | hb
   ·exact lTO
   rcases List.mem_cons.mp hb with rfl | hb
   ·exact l1
   ·have e:b=i2:=by simpa using hb
    rw [e]; exact l2
  have hf1:∀ b∈[z,TI,TO,i1,i2],FpOk X pins (upd H s.heap.objs.size (.tup [x,y])) b:=fun b hb=>by
   obtain ⟨f0,r⟩:=hf b hb
   refine ⟨?_,r⟩
   rw [zaT_ (Nat.ne_of_lt (hlt b hb))]
   exact f0
  have I2:Inv X pins σ (upd H s.heap.objs.size (.tup [x,y])) { s with heap:=h4,toks:=s.toks }:=by
   refine Inv.turnedL (s:={ s with heap:=s.heap.push { cls:=.type "tuple",data:=.seq #[u,v] },toks:=s.toks }) (ch:=[z,TI,TO,i1,i2]) I1 (fun b o hb q=>?_) hf1
   have n1:b≠z:=fun e=>hb (by simp [e])
   have n2:b≠TO:=fun e=>hb (by simp [e])
   have n3:b≠i1:=fun e=>hb (by simp [e])
   have n4:b≠i2:=fun e=>hb (by simp [e])
   refine (hs4.2 b n1).trans ?_
   rcases Heap.get?_push_cases q with ⟨rfl,rfl⟩ | q'
   ·exact pr3
   ·exact hk3 b o n1 n2 n3 n4 q'
  refine ⟨.ref s.heap.objs.size,_,I2,rfl,⟨s.heap.objs.size,x,y,fun zs hy'=>by rw [I.list_inj hy' hq]; exact hx,fun zs hy'=>by rw [I.list_inj hy' hq2]; exact hy,hp,rfl,rfl⟩,⟨z4,?_,⟨u,v,?_⟩,?_,?_⟩,fun b hb=>(hf1 b hb).1⟩
  ·exact (hs4.2 TI D.TIz).trans (hk3 TI _ D.TIz D.TITO D.TIi1 D.TIi2 hTI)
  ·exact (hs4.2 TO D.TOz).trans TO3
  ·exact it13.extBut hs4.extBut D.i1z
  ·exact it23.extBut hs4.extBut D.i2z
 done:=by
  intro X hP hw hK hc i pins s σ H E I hf st hg
  subst hP hw hK
  obtain ⟨xs,ys,hq,hq2,hx⟩:=hg
  obtain ⟨its,rv,p,hz0⟩:=I.list hq
  obtain ⟨its2,rv2,p2,hz2⟩:=I.list hq2
  obtain ⟨hz,hTI,⟨a,c,hTO⟩,h1,h2⟩:=st
  have hl:=rv.length
  have hl2:=rv2.length
  refine wpAny_pyNext_zip_end (I.ok.hd hc) D hz hTI hTO h1 h2 p.isList p2.isList ?_ fun h' eb=>⟨rfl,?_⟩
  ·rcases hx with hx | hx
   ·exact .inl (by simp; omega)
   ·exact .inr (by simp; omega)
  ·refine Inv.turnedL (s:=s) (t':=s.toks) (ch:=[z,TI,TO,i1,i2]) I (fun b o hb q=>eb b o (fun e=>hb (by simp [e])) (fun e=>hb (by simp [e])) (fun e=>hb (by simp [e])) (fun e=>hb (by simp [e])) q) hf
 self:=fun _ _ _ _ _ st h=>wpAny_pyIter_zip st.1 h
theorem zkR_ {N l m:Nat}(hl:l<N) (hm:m<N):ZipApart (N+4) (N+2) (N+3) N (N+1) l m:=by
 constructor<;>(intro e; have e':(_:Nat)=_:=congrArg (fun x:Nat=>x) e; omega)
section
variable {X:Cx}{elts:List Expr}{kk:Nat}{tpos:Pos}
noncomputable def iZip (K:PySem.W.Frag) (ta:TA):TI:=fun σ H R=>ta σ H fun vs H1=>match vs with
 | [.ref a,.ref b]=>(∃ xs,SqL K H1 a xs)∧(∃ ys,SqL K H1 b ys)∧R (Itz K a b) H1
 | _=>False
theorem zpx_ {a b:Expr}{ta:TA}{p pos:Pos}(hm:Gb X.mg "zip") (ha:PA X [a,b] ta) (hg:Gl X "zip" := by rfl) (hs:starEach [a,b] X.env=[(false,eval a X.env),(false,eval b X.env)]:=by rfl) (hs2:starEach [b] X.env=[(false,eval b X.env)]:=by rfl) :
  PI X (.Tuple elts kk tpos) (.Call (.Name "zip" p) [a,b] [] pos) (iZip X.K ta):=by
 intro pins s σ H R I h
 refine Call_ (zgW_ I hg hm (u:=.type "zip") (by rfl) (PyProof.Rows.callWith_type1 (thn (ha pos pins s σ H _ I h) fun us s1 ⟨vs,H1,I1,r1,q1⟩=>?_) (by rw [hs,hs2]) (by rw [hs2]; rfl)))
 dsimp only at q1
 split at q1
 ·rename_i l m
  obtain ⟨⟨xs,hq⟩,⟨ys,hq2⟩,q⟩:=q1
  cases r1 with
  | cons r rr =>
   cases rr with
   | cons r' rr =>
    cases rr
    cases r
    cases r'
    obtain ⟨its,rv,p1,hz⟩:=I1.list hq
    obtain ⟨its2,rv2,p2,hz2⟩:=I1.list hq2
    refine call_zip_2 p1.isList p2.isList fun h' hz' hTI hTO h1 h2 hsz hk=>?_
    refine wpAny_pyIter_zip (s:={ s1 with heap:=h' }) hz' ?_
    have I2:Inv X pins σ H1 { s1 with heap:=h' }:=I1.kept (t':=s1.toks) hk
    have la:l<s1.heap.objs.size:=by obtain ⟨o,e,_⟩:=p1.isList; exact Heap.lt_size e
    have lb:m<s1.heap.objs.size:=by obtain ⟨o,e,_⟩:=p2.isList; exact Heap.lt_size e
    have DD:ZipApart (s1.heap.objs.size+4) (s1.heap.objs.size+2) (s1.heap.objs.size+3) s1.heap.objs.size (s1.heap.objs.size+1) l m:=by
     exact zkR_ la lb
    refine ⟨s1.heap.objs.size+4,[s1.heap.objs.size+4,s1.heap.objs.size+2,s1.heap.objs.size+3,s1.heap.objs.size,s1.heap.objs.size+1],_,_,H1,rfl,I2,znw_ _ _ _ _ _ l m DD,⟨hz',hTI,⟨_,_,hTO⟩,h1,h2⟩,fun b hb=>?_,q⟩
    have hb':s1.heap.objs.size≤b:=by
     simp only [List.mem_cons,List.not_mem_nil,or_false] at hb
     rcases hb with rfl | rfl | rfl | rfl | rfl
     ·exact Nat.le_add_right _ _
     ·exact Nat.le_add_right _ _
     ·exact Nat.le_add_right _ _
     ·exact Nat.le_refl _
     ·exact Nat.le_add_right _ _
    exact I1.fpOk hb' (I1.hok.fresh hb')
 ·exact q1.elim
end
section
variable {X:Cx}{e st:Expr}{te:TE}{ts:TO}{pos p2:Pos}
end
end L2
namespace L2
open PySem PySem.Spec PyProof.Rows
noncomputable def keyV:V→Option Key
 | .int i=>some (.inl i)
 | .str z=>some (.inr z)
 | _=>none
theorem zow_ {y:V}{k:Key}(h:keyV y=some k):y=kV k:=by
 cases y<;>first | (cases h; rfl) | cases h
noncomputable def atD (x y:V) (H:Hp) (R:Addr→List (Key×V)→Key→Prop):Prop:=match x with
 | .ref a=>(match keyV y with | some k=>∃ kvs,H a=some (.dK kvs)∧R a kvs k | none=>False)
 | _=>False
theorem zmP_ {x y:V}{H:Hp}{R:Addr→List (Key×V)→Key→Prop}(h:atD x y H R):∃ a kvs k,x=.ref a∧y=kV k∧H a=some (.dK kvs)∧R a kvs k:=by
 unfold atD at h
 cases x with
 | ref a =>
  cases e:keyV y with
  | none=>rw [e] at h; exact h.elim
  | some k =>
   rw [e] at h
   obtain ⟨kvs,h1,h2⟩:=h
   exact ⟨a,kvs,k,rfl,zow_ e,h1,h2⟩
 | _=>exact h.elim
noncomputable def mDPut (td ty tv:TE):TS:=fun D σ H=>tv σ H fun v H1=>td σ H1 fun x H2=>ty σ H2 fun y H3=>atD x y H3 fun a kvs k=>kvs.length<sizeLine∧D.nx σ (upd H3 a (.dK (putK kvs k v)))
section
variable {X:Cx}{o i e value:Expr}{pos pos' tpos:Pos}{td ty tv:TE}
theorem zjO_ (hu:X.A.units+60<cLine) (ho:PE X o td) (hi:PE X i ty) (hv:PE X value tv) (hs:swapsWith value (some (.Subscript o i pos')) pos.line X.env=pure false:=by rfl) :
  PS X (.Assign [.Subscript o i pos'] value pos) (mDPut td ty tv):=by
 intro pins s σ H D I h
 refine wpAny_Assign_Subscript (thn (hv pins s σ H _ I h) fun r s1 ⟨v,H1,I1,rv,q1⟩=>thn (ho pins s1 σ H1 _ I1 q1) fun u s2 ⟨x,H2,I2,rx,q2⟩=>thn (hi pins s2 σ H2 _ I2 q2) fun iv s3 ⟨y,H3,I3,ry,q3⟩=>?_) hs
 obtain ⟨a,kvs,k,rfl,rfl,hd,hl,q⟩:=zmP_ q3
 obtain rfl:u=Value.ref a:=rx
 exact zkZ_ (by omega) I3 (DPut.k hd hl) ry rv fun s4 I4=>⟨σ,_,I4,q⟩
end
section
variable {X:Cx}{o e f:Expr}{apos cpos:Pos}{td ty tx':TE}
noncomputable def mDGet2 (td ty tx':TE):TE:=fun σ H Q=>td σ H fun x H1=>(match x with | .ref a=>∃ kvs,H1 a=some (.dK kvs) | _=>False)∧ty σ H1 fun y H2=>tx' σ H2 fun z H3=>atD x y H3 fun _ kvs k=>Q ((valV kvs k).getD z) H3
theorem zlt_ (hu:X.A.units+60<cLine) (ho:PE X o td) (he:PE X e ty) (hf:PE X f tx') (m:M2 X o "get" apos e f cpos:=by exact ⟨rfl,rfl,rfl,rfl⟩):PE X (.Call (.Attribute o "get" apos) [e,f] [] cpos) (mDGet2 td ty tx'):=by
 intro pins s σ H Q I h
 refine wpAny_Call_method m.base m.few m.line PySem.F.plainAttrs_dict PySem.F.slot_dict_get PySem.F.type_dict_get (thn (ho pins s σ H _ I h) fun u s1 ⟨x,H1,I1,rx,hx,q1⟩=>?_)
 cases x with
 | ref a =>
  obtain ⟨kvs0,hd0⟩:=hx
  obtain rfl:u=Value.ref a:=rx
  obtain ⟨t1,t2,_⟩:=zqx_ I1 (.inl ⟨kvs0,.inl hd0⟩)
  refine ⟨t1,t2,?_⟩
  rw [m.trees]
  refine Calls.callWith_builtin rfl (Calls.evalArgs_plain (Calls.spliced_cons (thn (he pins s1 σ H1 _ I1 q1) fun iv s2 ⟨y,H2,I2,ry,q2⟩ =>
   Calls.spliced_cons (thn (hf pins s2 σ H2 _ I2 q2) fun fv s3 ⟨z,H3,I3,rz,q3⟩=>Calls.spliced_nil ?_))))
  obtain ⟨a',kvs,k,ea,rfl,hd,q⟩:=zmP_ q3
  cases ea
  exact zqr_ (by omega) I3 (DGet.k (k:=k) hd) ry rz fun w' s4 I4 rw'=>⟨_,H3,I4,rw',q⟩
 | _=>exact hx.elim
end
section
variable {X:Cx}{o i:Expr}{pos:Pos}{td ty:TE}
end
end L2
namespace L2
open PySem PySem.Spec PyProof.Rows
inductive Mo (α:Type) where
 | ok (a:α) | ex (c:String) | no
namespace Mo
variable {α β γ:Type}
noncomputable def bind (x:Mo α) (f:α→Mo β):Mo β:=match x with | .ok a=>f a | .ex c=>.ex c | .no=>.no
theorem ok_bind (a:α) (f:α→Mo β):(Mo.ok a).bind f=f a:=rfl
noncomputable def noex (x:Mo α):Mo α:=match x with | .ok a=>.ok a | _=>.no
noncomputable def lim (n:Nat) (k:Mo α):Mo α:=if n≤sizeLine then k else .no
theorem lim_ok {n:Nat}{k:Mo α}(h:n≤100000):lim n k=k:=if_pos (zeu_ h)
noncomputable def grd (p:Prop) [Decidable p] (k:Mo α):Mo α:=if p then k else .no
theorem grd_ok {p:Prop} [Decidable p] {k:Mo α}(h:p):grd p k=k:=if_pos h
noncomputable def opt (x:Option α):Mo α:=match x with | some a=>.ok a | none=>.no
end Mo
noncomputable def un (F h:Hp):Hp:=fun p=>match F p with | some o=>some o | none=>h p
noncomputable def Dj (F h:Hp):Prop:=∀ p,F p=none∨h p=none
noncomputable def Jn (h1 h2 h:Hp):Prop:=∀ p,(h1 p=none∧h p=h2 p)∨(h2 p=none∧h p=h1 p)
noncomputable def Ext (F H F' H':Hp):Prop:=Same F F'∧Same F' H'∧Same H H'∧∀ p,F p=none→F' p≠none→H p=none
theorem Ext.refl {F H:Hp}(h:Same F H):Ext F H F H:=⟨Same.refl _,h,Same.refl _,fun p a b=>absurd a b⟩
theorem Ext.trans {F H F1 H1 F2 H2:Hp}(a:Ext F H F1 H1) (b:Ext F1 H1 F2 H2):Ext F H F2 H2:=by
 obtain ⟨a1,a2,a3,a4⟩:=a
 obtain ⟨b1,b2,b3,b4⟩:=b
 refine ⟨a1.trans b1,b2,a3.trans b3,fun p hp hq=>?_⟩
 cases e:F1 p with
 | none=>exact a3.free (b4 p e hq)
 | some o=>exact a4 p hp (by rw [e]; exact Option.some_ne_none _)
theorem Ext.heap {F H H':Hp}(h:Same F H) (g:Same H H'):Ext F H F H':=⟨Same.refl _,h.trans g,g,fun p a b=>absurd a b⟩
theorem Ext.new {F H:Hp}(h:Same F H) {p:Addr}{o:HO}(hp:H p=none):Ext F H (upd F p o) (upd H p o):=by
 refine ⟨zep_ (h.free hp) _,fun b u e=>?_,zep_ hp _,fun q a b=>?_⟩
 ·unfold upd at e ⊢
  split
  ·rename_i z; rw [if_pos z] at e; exact e
  ·rename_i z; rw [if_neg z] at e; exact h _ _ e
 ·unfold upd at b
  split at b
  ·rename_i z; rw [z]; exact hp
  ·exact absurd a b
structure Ty (α:Type) where
 R:α→V→Hp→Prop
 mono:∀ {a v H H'},Same H H'→R a v H→R a v H'
noncomputable def Tups (H H':Hp):Prop:=∀ p xs,H p=some (.tup xs)→H' p=some (.tup xs)
noncomputable def Imm {α:Type}(T:Ty α):Prop:=∀ {a v H H'},Tups H H'→T.R a v H→T.R a v H'
noncomputable abbrev tyInt:Ty Int:=⟨fun a v _=>v=.int a,fun _ h=>h⟩
noncomputable abbrev tyStr:Ty (List Nat):=⟨fun a v _=>v=tx a,fun _ h=>h⟩
noncomputable abbrev tyBl:Ty Bool:=⟨fun a v _=>v=.bl a,fun _ h=>h⟩
noncomputable abbrev tyNon:Ty Unit:=⟨fun _ v _=>v=.non,fun _ h=>h⟩
theorem zb_:Imm tyInt:=fun _ h=>h
theorem zA_:Imm tyStr:=fun _ h=>h
theorem za3_:Imm tyBl:=fun _ h=>h
theorem zlO_:Imm tyNon:=fun _ h=>h
noncomputable abbrev tyOpt {α:Type}(T:Ty α):Ty (Option α):=⟨fun a v H=>match a with | none=>v=.non | some x=>T.R x v H∧v≠.non,fun {a v H H'} g h=>by cases a with | none=>exact h | some x=>exact ⟨T.mono g h.1,h.2⟩⟩
theorem zc2_ {α:Type}{T:Ty α}(i:Imm T):Imm (tyOpt T):=fun {a v H H'} g h=>by cases a with | none=>exact h | some x=>exact ⟨i g h.1,h.2⟩
structure Cs (γ:Type) where
 R:γ→List V→Hp→Prop
 mono:∀ {c vs H H'},Same H H'→R c vs H→R c vs H'
noncomputable def ImmC {γ:Type}(C:Cs γ):Prop:=∀ {c vs H H'},Tups H H'→C.R c vs H→C.R c vs H'
noncomputable abbrev csNil:Cs Unit:=⟨fun _ vs _=>vs=[],fun _ h=>h⟩
noncomputable abbrev csLast {α:Type}(T:Ty α):Cs α:=⟨fun a vs H=>∃ v,vs=[v]∧T.R a v H,fun g ⟨v,e,h⟩=>⟨v,e,T.mono g h⟩⟩
noncomputable abbrev csCons {α γ:Type}(T:Ty α) (C:Cs γ):Cs (α×γ):=⟨fun a vs H=>∃ v us,vs=v::us∧T.R a.1 v H∧C.R a.2 us H,fun g ⟨v,us,e,h,q⟩=>⟨v,us,e,T.mono g h,C.mono g q⟩⟩
theorem zmU_:ImmC csNil:=fun _ h=>h
theorem zq_ {α:Type}{T:Ty α}(i:Imm T):ImmC (csLast T):=fun g ⟨v,e,h⟩=>⟨v,e,i g h⟩
theorem zt_ {α γ:Type}{T:Ty α}{C:Cs γ}(i:Imm T) (j:ImmC C):ImmC (csCons T C):=fun g ⟨v,us,e,h,q⟩=>⟨v,us,e,i g h,j g q⟩
noncomputable abbrev tyTup {γ:Type}(C:Cs γ):Ty γ:=⟨fun c v H=>∃ p us,v=.ref p∧H p=some (.tup us)∧C.R c us H,fun g ⟨p,us,e,h,q⟩=>⟨p,us,e,g _ _ h,C.mono g q⟩⟩
theorem zY_ {γ:Type}{C:Cs γ}(i:ImmC C):Imm (tyTup C):=fun g ⟨p,us,e,h,q⟩=>⟨p,us,e,g _ _ h,i g q⟩
noncomputable abbrev Prs {α:Type}(T:Ty α) (H:Hp) (xs:List α) (vs:List V):Prop:=Paired (fun x v=>T.R x v H) xs vs
theorem zdb_ {α β:Type}{R R':α→β→Prop}(h:∀ a b,R a b→R' a b):∀ {xs:List α}{ys:List β},Paired R xs ys→Paired R' xs ys
 | _,_,.nil=>.nil
 | _,_,.cons a t=>.cons (h _ _ a) (zdb_ h t)
theorem Prs.mono {α:Type}{T:Ty α}{H H':Hp}{xs:List α}{vs:List V}(g:Same H H') (h:Prs T H xs vs):Prs T H' xs vs:=zdb_ (fun _ _ r=>T.mono g r) h
theorem Prs.imm {α:Type}{T:Ty α}(i:Imm T) {H H':Hp}{xs:List α}{vs:List V}(g:Tups H H') (h:Prs T H xs vs):Prs T H' xs vs:=zdb_ (fun _ _ r=>i g r) h
noncomputable abbrev tyL {α:Type}(T:Ty α):Ty (List α):=⟨fun xs v H=>∃ p vs,v=.ref p∧H p=some (.lst vs)∧Prs T H xs vs,fun g ⟨p,vs,e,h,q⟩=>⟨p,vs,e,g _ _ h,q.mono g⟩⟩
noncomputable abbrev tySc (K:PySem.W.Frag):Ty (List Int):=⟨fun xs v H=>∃ p,v=.ref p∧SqL K H p (xs.map V.int),fun g ⟨p,e,h⟩=>⟨p,e,g.seq h⟩⟩
structure Own (α:Type) where
 O:α→V→Hp→Hp→Prop
 fr:Ty α
 mono:∀ {a v F F' h},Same F F'→O a v F h→O a v F' h
 frz:∀ {a v F h},Dj F h→O a v F h→fr.R a v (un F h)
 notup:∀ {a v F h},O a v F h→∀ p xs,h p≠some (.tup xs)
noncomputable def ImmO {α:Type}(O:Own α):Prop:=∀ {a v F F' h},Tups F F'→O.O a v F h→O.O a v F' h
theorem zbq_ {F h:Hp}:Same F (un F h):=fun p o e=>by unfold un; rw [e]
theorem zhv_ {F h:Hp}(d:Dj F h):Same h (un F h):=fun p o e=>by
 unfold un
 rcases d p with z | z
 ·rw [z]; exact e
 ·rw [z] at e; cases e
noncomputable abbrev owF {α:Type}(T:Ty α):Own α:=⟨fun a v F h=>(∀ p,h p=none)∧T.R a v F,T,fun g ⟨e,h⟩=>⟨e,T.mono g h⟩,fun _ ⟨_,h⟩=>T.mono zbq_ h,fun ⟨e,_⟩ p xs z=>by rw [e] at z; cases z⟩
theorem zv_ {α:Type}{T:Ty α}(i:Imm T):ImmO (owF T):=fun g ⟨e,h⟩=>⟨e,i g h⟩
noncomputable def one (p:Addr) (o:HO):Hp:=fun q=>if q=p then some o else none
theorem zbk_ {p:Addr}{o:HO}:one p o p=some o:=if_pos rfl
noncomputable abbrev owL {α:Type}(T:Ty α):Own (List α):=⟨fun xs v F h=>∃ p vs,v=.ref p∧h=one p (.lst vs)∧Prs T F xs vs,tyL T,fun g ⟨p,vs,e,z,q⟩=>⟨p,vs,e,z,q.mono g⟩,
 fun d ⟨p,vs,e,z,q⟩=>⟨p,vs,e,zhv_ d _ _ (by rw [z]; exact zbk_),q.mono zbq_⟩,
 fun ⟨p,vs,e,z,q⟩ b xs y=>by rw [z] at y; unfold one at y; split at y<;>cases y⟩
theorem z1_ {α:Type}{T:Ty α}(i:Imm T):ImmO (owL T):=fun g ⟨p,vs,e,z,q⟩=>⟨p,vs,e,z,q.imm i g⟩
inductive Sl:Type 1 where
 | dead
 | fz {α:Type}(T:Ty α) (a:α)
 | ow {α:Type}(O:Own α) (a:α)
noncomputable def Sl.P:Sl→Option V→Hp→Hp→Prop
 | .dead,_,_,_=>True
 | .fz T a,o,F,_=>∃ v,o=some v∧T.R a v F
 | .ow O a,o,F,h=>∃ v,o=some v∧O.O a v F h
noncomputable def Sl.Z:Sl→Option V→Hp→Prop
 | .dead,_,_=>True
 | .fz T a,o,F=>∃ v,o=some v∧T.R a v F
 | .ow O a,o,F=>∃ v,o=some v∧O.fr.R a v F
noncomputable def Sl.cold:Sl→Sl
 | .ow _ _=>.dead
 | s=>s
noncomputable def Hold:List Sl→St→Hp→Hp→Prop
 | [],[],_,_=>True
 | s::L,o::σ,F,h=>∃ h1 h2,Jn h1 h2 h∧s.P o F h1∧Hold L σ F h2
 | _,_,_,_=>False
noncomputable def HoldF (L:List Sl) (σ:St) (F:Hp):Prop:=∀ (i:Nat) (s:Sl),L[i]?=some s→s.Z (σ[i]?.join) F
theorem Sl.P.mono {s:Sl}{o:Option V}{F F' h:Hp}(g:Same F F') (q:s.P o F h):s.P o F' h:=by
 cases s with
 | dead=>exact q
 | fz T a=>obtain ⟨v,e,r⟩:=q; exact ⟨v,e,T.mono g r⟩
 | ow O a=>obtain ⟨v,e,r⟩:=q; exact ⟨v,e,O.mono g r⟩
theorem Sl.Z.mono {s:Sl}{o:Option V}{F F':Hp}(g:Same F F') (q:s.Z o F):s.Z o F':=by
 cases s with
 | dead=>exact q
 | fz T a=>obtain ⟨v,e,r⟩:=q; exact ⟨v,e,T.mono g r⟩
 | ow O a=>obtain ⟨v,e,r⟩:=q; exact ⟨v,e,O.fr.mono g r⟩
theorem HoldF.mono {L:List Sl}{σ:St}{F F':Hp}(g:Same F F') (q:HoldF L σ F):HoldF L σ F':=fun i s e=>(q i s e).mono g
theorem Hold.mono:∀ {L:List Sl}{σ:St}{F F' h:Hp},Same F F'→Hold L σ F h→Hold L σ F' h
 | [],[],_,_,_,_,q=>q
 | s::L,o::σ,F,F',h,g,⟨h1,h2,j,p,r⟩=>⟨h1,h2,j,p.mono g,r.mono g⟩
 | [],_::_,_,_,_,_,q=>q.elim
 | _::_,[],_,_,_,_,q=>q.elim
theorem Hold.len:∀ {L:List Sl}{σ:St}{F h:Hp},Hold L σ F h→L.length=σ.length
 | [],[],_,_,_=>rfl
 | s::L,o::σ,F,h,⟨h1,h2,j,p,r⟩=>by rw [List.length_cons,List.length_cons,r.len]
 | [],_::_,_,_,q=>q.elim
 | _::_,[],_,_,q=>q.elim
theorem Jn.l {h1 h2 h:Hp}(j:Jn h1 h2 h):Same h1 h:=fun p o e=>by
 rcases j p with ⟨a,b⟩ | ⟨a,b⟩
 ·rw [a] at e; cases e
 ·rw [b]; exact e
theorem Jn.r {h1 h2 h:Hp}(j:Jn h1 h2 h):Same h2 h:=fun p o e=>by
 rcases j p with ⟨a,b⟩ | ⟨a,b⟩
 ·rw [b]; exact e
 ·rw [a] at e; cases e
theorem Jn.dj {h1 h2 h:Hp}(j:Jn h1 h2 h):Dj h1 h2:=fun p=>by
 rcases j p with ⟨a,b⟩ | ⟨a,b⟩
 ·exact .inl a
 ·exact .inr a
theorem zdN_ {h1 h2:Hp}(d:Dj h1 h2):Jn h1 h2 (un h1 h2):=fun p=>by
 unfold un
 rcases d p with a | a
 ·rw [a]; exact .inl ⟨rfl,rfl⟩
 ·refine .inr ⟨a,?_⟩
  cases h1 p with
  | none=>exact a
  | some o=>rfl
theorem Hold.at:∀ {L:List Sl}{σ:St}{F h:Hp}(i:Nat) {s:Sl},Hold L σ F h→L[i]?=some s →
  ∃ o h1 h2,σ[i]?=some o∧Jn h1 h2 h∧s.P o F h1∧∀ s' o' h1' h',Jn h1' h2 h'→s'.P o' F h1'→Hold (L.set i s') (σ.set i o') F h'
 | [],_,_,_,_,_,_,e=>by cases e
 | s::L,[],_,_,_,_,q,_=>q.elim
 | s::L,o::σ,F,h,0,t,⟨h1,h2,j,p,r⟩,e=>by
  cases e
  exact ⟨o,h1,h2,rfl,j,p,fun s' o' h1' h' j' p'=>⟨h1',h2,j',p',r⟩⟩
 | s::L,o::σ,F,h,i+1,t,⟨h1,h2,j,p,r⟩,e=>by
  obtain ⟨o1,k1,k2,e1,j1,p1,f⟩:=Hold.at i r (by simpa using e)
  have d1:Dj h1 k1:=fun p=>by
   rcases j.dj p with a | a
   ·exact .inl a
   ·exact .inr (j1.l.free a)
  have d2:Dj h1 k2:=fun p=>by
   rcases j.dj p with a | a
   ·exact .inl a
   ·exact .inr (j1.r.free a)
  refine ⟨o1,k1,un h1 k2,by simpa using e1,fun p=>?_,p1,fun s' o' k1' h' j' p'=>?_⟩
  ·rcases j p with ⟨a,b⟩ | ⟨a,b⟩
   ·rcases j1 p with ⟨c,d⟩ | ⟨c,d⟩
    ·refine .inl ⟨c,?_⟩; unfold un; rw [a,b,d]
    ·refine .inr ⟨?_,by rw [b,d]⟩; unfold un; rw [a,c]
   ·refine .inl ⟨j1.l.free a,?_⟩
    have:k2 p=none:=j1.r.free a
    unfold un; rw [b]
    cases h1 p with
    | none=>rw [this]
    | some u=>rfl
  ·have dd:Dj k1' k2:=fun p=>by
    rcases j' p with ⟨a,b⟩ | ⟨a,b⟩
    ·exact .inl a
    ·right; unfold un at a
     cases z:h1 p with
     | none=>rw [z] at a; exact a
     | some u=>rw [z] at a; cases a
   refine ⟨h1,un k1' k2,fun p=>?_,p,f s' o' k1' _ (zdN_ dd) p'⟩
   rcases j' p with ⟨a,b⟩ | ⟨a,b⟩
   ·unfold un at b ⊢
    cases z:h1 p with
    | none=>rw [z] at b; exact .inl ⟨rfl,by rw [b,a]⟩
    | some u =>
     rw [z] at b
     refine .inr ⟨?_,b⟩
     rw [a]
     rcases d2 p with y | y
     ·rw [y] at z; cases z
     ·exact y
   ·unfold un at a
    cases z:h1 p with
    | some u=>rw [z] at a; cases a
    | none =>
     rw [z] at a
     refine .inl ⟨rfl,?_⟩
     unfold un; rw [b]
     cases k1' p with
     | none=>exact a.symm
     | some u=>rfl
theorem Hold.froz {L:List Sl}{σ:St}{F h:Hp}(d:Dj F h) (q:Hold L σ F h):HoldF L σ (un F h):=by
 intro i s e
 obtain ⟨o,h1,h2,e1,j,p,_⟩:=q.at i e
 rw [e1]
 have d1:Dj F h1:=fun p=>by
  rcases d p with a | a
  ·exact .inl a
  ·exact .inr (j.l.free a)
 cases s with
 | dead=>trivial
 | fz T a=>obtain ⟨v,e2,r⟩:=p; exact ⟨v,e2,T.mono zbq_ r⟩
 | ow O a =>
  obtain ⟨v,e2,r⟩:=p
  refine ⟨v,e2,O.fr.mono (fun p u z=>?_) (O.frz d1 r)⟩
  unfold un at z ⊢
  cases y:F p with
  | some w=>rw [y] at z; exact z
  | none=>rw [y] at z; exact j.l _ _ z
theorem Hold.coldF {L:List Sl}{σ:St}{F h:Hp}(q:Hold L σ F h):HoldF (L.map Sl.cold) σ F:=by
 intro i s e
 rw [List.getElem?_map] at e
 cases e1:L[i]? with
 | none=>rw [e1] at e; cases e
 | some t =>
  rw [e1] at e
  cases e
  obtain ⟨o,h1,h2,e2,j,p,_⟩:=q.at i e1
  rw [e2]
  cases t with
  | dead=>trivial
  | fz T a=>obtain ⟨v,e2,r⟩:=p; exact ⟨v,e2,r⟩
  | ow O a=>trivial
end L2
namespace L2
open PySem PySem.Spec PyProof.Rows
noncomputable def After {α:Type}(K:PySem.W.Frag) (r:Mo α) (E:XK) (F H:Hp) (k:α→Hp→Hp→Prop):Prop:=match r with
 | .ok a=>∀ F' H',Ext F H F' H'→k a F' H'
 | .ex c=>∀ F' H',Ext F H F' H'→E (.ref (gA K c)) none H'
 | .no=>False
section
variable {K:PySem.W.Frag}{E:XK}{α β γ ρ:Type}{F H:Hp}
theorem After.bind {r:Mo α}{f:α→Mo β}{k:β→Hp→Hp→Prop}(h:After K (r.bind f) E F H k):After K r E F H fun a F1 H1=>After K (f a) E F1 H1 k:=by
 cases r with
 | ok a =>
  intro F1 H1 x
  have h':After K (f a) E F H k:=h
  cases e:f a with
  | ok b=>rw [e] at h'; exact fun F2 H2 y=>h' F2 H2 (x.trans y)
  | ex c=>rw [e] at h'; exact fun F2 H2 y=>h' F2 H2 (x.trans y)
  | no=>rw [e] at h'; exact h'
 | ex c=>exact h
 | no=>exact h
theorem After.imp {r:Mo α}{k k':α→Hp→Hp→Prop}(h:After K r E F H k) (g:∀ a F' H',Ext F H F' H'→k a F' H'→k' a F' H'):After K r E F H k':=by
 cases r with
 | ok a=>exact fun F' H' x=>g a F' H' x (h F' H' x)
 | ex c=>exact h
 | no=>exact h
theorem After.ok {a:α}{k:α→Hp→Hp→Prop}(hs:Same F H) (h:After K (.ok a) E F H k):k a F H:=h F H (.refl hs)
theorem After.noex {r:Mo α}{k:α→Hp→Hp→Prop}(h:After K r.noex E F H k):After K r E0 F H k:=by
 cases r with
 | ok a=>exact h
 | ex c=>exact h.elim
 | no=>exact h
theorem After.lim {n:Nat}{r:Mo α}{k:α→Hp→Hp→Prop}(h:After K (Mo.lim n r) E F H k):n≤sizeLine∧After K r E F H k:=by
 unfold Mo.lim at h
 split at h
 ·exact ⟨by assumption,h⟩
 ·exact h.elim
theorem After.grd {p:Prop} [Decidable p] {r:Mo α}{k:α→Hp→Hp→Prop}(h:After K (Mo.grd p r) E F H k):p∧After K r E F H k:=by
 unfold Mo.grd at h
 split at h
 ·exact ⟨by assumption,h⟩
 ·exact h.elim
theorem After.opt {x:Option α}{k:α→Hp→Hp→Prop}(h:After K (Mo.opt x) E F H k):∃ a,x=some a∧After K (.ok a) E F H k:=by
 cases x with
 | none=>exact h.elim
 | some a=>exact ⟨a,rfl,h⟩
noncomputable def EvF (K:PySem.W.Frag) (e:TE) (E:XK) (L:List Sl) (r:Mo α) (T:Ty α):Prop :=
 ∀ σ F H (Q:VK),HoldF L σ F→Same F H→After K r E F H (fun a F' H'=>∀ v,T.R a v F'→Q v H')→e σ H Q
noncomputable def OwnK (O:Own α) (H:Hp) (Q:VK) (a:α) (F' H':Hp):Prop:=∀ v h,(∀ p,h p≠none→H p=none)→Dj F' h→Same h H'→O.O a v F' h→Q v H'
noncomputable def EvO (K:PySem.W.Frag) (e:TE) (E:XK) (L:List Sl) (r:Mo α) (O:Own α):Prop :=
 ∀ σ F H (Q:VK),HoldF L σ F→Same F H→After K r E F H (OwnK O H Q)→e σ H Q
noncomputable def EvT (K:PySem.W.Frag) (t:TT) (E:XK) (L:List Sl) (r:Mo Bool):Prop :=
 ∀ σ F H (Q:Bool→Hp→Prop),HoldF L σ F→Same F H→After K r E F H (fun b _ H'=>Q b H')→t σ H Q
noncomputable def EvA (K:PySem.W.Frag) (t:TA) (E:XK) (L:List Sl) (r:Mo γ) (C:Cs γ):Prop :=
 ∀ σ F H (Q:List V→Hp→Prop),HoldF L σ F→Same F H→After K r E F H (fun c F' H'=>∀ vs,C.R c vs F'→Q vs H')→t σ H Q
variable {L:List Sl}{e e1 e2:TE}{T:Ty α}{r:Mo α}
theorem EvO.fr {O:Own α}(h:EvO K e E L r O):EvF K e E L r O.fr:=by
 intro σ F H Q hL hs q
 refine h σ F H Q hL hs ?_
 cases r with
 | ok a =>
  intro F' H' x v h' fresh d s o
  refine q (un F' h') H' ⟨x.1.trans zbq_,fun p o e=>?_,x.2.2.1,fun p a b=>?_⟩ v (O.frz d o)
  ·unfold un at e
   cases z:F' p with
   | some w=>rw [z] at e; cases e; exact x.2.1 _ _ z
   | none=>rw [z] at e; exact s _ _ e
  ·unfold un at b
   cases z:F' p with
   | some w=>exact x.2.2.2 p a (by rw [z]; exact Option.some_ne_none _)
   | none=>rw [z] at b; exact fresh p b
 | ex c=>exact q
 | no=>exact q
theorem EvF.ow (h:EvF K e E L r T):EvO K e E L r (owF T):=by
 intro σ F H Q hL hs q
 refine h σ F H Q hL hs (q.imp fun a F' H' x k v hv=>?_)
 exact k v (fun _=>none) (fun p z=>absurd rfl z) (fun p=>.inr rfl) (fun p o z=>by cases z) ⟨fun _=>rfl,hv⟩
theorem ev_c {v:V}{a:α}(h:∀ F,T.R a v F):EvF K (tC v) E L (.ok a) T:=fun σ F H Q hL hs q=>q.ok hs v (h F)
theorem zs_ (i:Int):EvF K (tC (.int i)) E L (.ok i) tyInt:=ev_c fun _=>rfl
theorem zcR_ (l:List Nat):EvF K (tC (tx l)) E L (.ok l) tyStr:=ev_c fun _=>rfl
theorem zkN_ (b:Bool):EvF K (tC (.bl b)) E L (.ok b) tyBl:=ev_c fun _=>rfl
theorem zoN_:EvF K (tC .non) E L (.ok ()) tyNon:=ev_c fun _=>rfl
theorem znV_ {β:Type}{T:Ty β}:EvF K (tC .non) E L (.ok (none:Option β)) (tyOpt T):=ev_c fun _=>rfl
theorem zob_ (hn:∀ a v F,T.R a v F→v≠.non) (h:EvF K e E L r T):EvF K e E L (r.bind fun a=>.ok (some a)) (tyOpt T):=by
 intro σ F H Q hL hs q
 exact h σ F H Q hL hs (q.bind.imp fun a F1 H1 x k v hv=>k.ok x.2.1 v ⟨hv,hn _ _ _ hv⟩)
theorem zd_ (i:Nat) {a:α}(h:L[i]?=some (.fz T a)):EvF K (mVar i) E L (.ok a) T:=by
 intro σ F H Q hL hs q
 obtain ⟨v,e,r⟩:=hL i _ h
 unfold mVar
 cases z:σ[i]? with
 | none=>rw [z] at e; cases e
 | some o =>
  rw [z] at e
  cases (show o=some v from e)
  exact q.ok hs v r
theorem zfr_ (i:Nat) {O:Own α}{a:α}(h:L[i]?=some (.ow O a)):EvF K (mVar i) E L (.ok a) O.fr:=by
 intro σ F H Q hL hs q
 obtain ⟨v,e,r⟩:=hL i _ h
 unfold mVar
 cases z:σ[i]? with
 | none=>rw [z] at e; cases e
 | some o =>
  rw [z] at e
  cases (show o=some v from e)
  exact q.ok hs v r
noncomputable def Op2 (K:PySem.W.Frag) (m:R2) (E:XK) (T1:Ty α) (T2:Ty β) (g:α→β→Mo γ) (T:Ty γ):Prop :=
 ∀ a b x y F H (Q:VK),Same F H→T1.R a x F→T2.R b y F→After K (g a b) E F H (fun c F' H'=>∀ v,T.R c v F'→Q v H')→m x y H Q
noncomputable def Op2O (K:PySem.W.Frag) (m:R2) (E:XK) (T1:Ty α) (T2:Ty β) (g:α→β→Mo γ) (O:Own γ):Prop :=
 ∀ a b x y F H (Q:VK),Same F H→T1.R a x F→T2.R b y F→After K (g a b) E F H (OwnK O H Q)→m x y H Q
theorem OwnK.back {O:Own α}{H H1:Hp}{Q:VK}{a:α}{F' H':Hp}(g:Same H H1) (h:OwnK O H Q a F' H'):OwnK O H1 Q a F' H' :=
 fun v k fresh d s o=>h v k (fun p z=>g.free (fresh p z)) d s o
theorem zX_ {m:R2}{T1:Ty α}{T2:Ty β}{T:Ty γ}{g:α→β→Mo γ}{r1:Mo α}{r2:Mo β}(hop:Op2 K m E T1 T2 g T) (h1:EvF K e1 E L r1 T1) (h2:EvF K e2 E L r2 T2) :
  EvF K (tOp m e1 e2) E L (r1.bind fun a=>r2.bind fun b=>g a b) T:=by
 intro σ F H Q hL hs q
 refine h1 σ F H _ hL hs (q.bind.imp fun a F1 H1 x1 k1 v1 hv1=>?_)
 refine h2 σ F1 H1 _ (hL.mono x1.1) x1.2.1 (k1.bind.imp fun b F2 H2 x2 k2 v2 hv2=>?_)
 exact hop a b v1 v2 F2 H2 Q x2.2.1 (T1.mono x2.1 hv1) hv2 k2
theorem zpJ_ {m:R2}{T1:Ty α}{T2:Ty β}{O:Own γ}{g:α→β→Mo γ}{r1:Mo α}{r2:Mo β}(hop:Op2O K m E T1 T2 g O) (h1:EvF K e1 E L r1 T1) (h2:EvF K e2 E L r2 T2) :
  EvO K (tOp m e1 e2) E L (r1.bind fun a=>r2.bind fun b=>g a b) O:=by
 intro σ F H Q hL hs q
 refine h1 σ F H _ hL hs (q.bind.imp fun a F1 H1 x1 k1 v1 hv1=>?_)
 refine h2 σ F1 H1 _ (hL.mono x1.1) x1.2.1 (k1.bind.imp fun b F2 H2 x2 k2 v2 hv2=>?_)
 exact hop a b v1 v2 F2 H2 Q x2.2.1 (T1.mono x2.1 hv1) hv2 (k2.imp fun c F3 H3 x3 k3=>k3.back (x1.2.2.1.trans x2.2.2.1))
theorem zqj_ {g:Int→Int→V}{f:Int→Int→α}(h:∀ i j F,T.R (f i j) (g i j) F):Op2 K (mI0 g) E tyInt tyInt (fun i j=>.ok (f i j)) T:=by
 intro a b x y F H Q hs hx hy q
 cases hx; cases hy
 exact q.ok hs _ (h a b F)
theorem op_i {C:Int→Int→Prop} [∀ i j,Decidable (C i j)] {g:Int→Int→V}{f:Int→Int→α}(h:∀ i j F,T.R (f i j) (g i j) F):Op2 K (mI C g) E tyInt tyInt (fun i j=>.grd (C i j) (.ok (f i j))) T:=by
 intro a b x y F H Q hs hx hy q
 cases hx; cases hy
 obtain ⟨c,q⟩:=q.grd
 exact ⟨c,q.ok hs _ (h a b F)⟩
instance (i j:Int):Decidable (CMul i j):=inferInstanceAs (Decidable (_∨_))
instance (i j:Int):Decidable (CDiv i j):=inferInstanceAs (Decidable (_∧_))
instance (i j:Int):Decidable (CPow i j):=inferInstanceAs (Decidable (_∧_∧_))
theorem zbz_:Op2 K mAdd E tyInt tyInt (fun i j=>.ok (i+j)) tyInt:=by
 intro a b x y F H Q hs hx hy q
 cases hx; cases hy
 exact q.ok hs _ rfl
theorem zdB_:Op2 K mSub E tyInt tyInt (fun i j=>.ok (i-j)) tyInt:=zqj_ fun _ _ _=>rfl
theorem zbc_:Op2 K mMod E tyInt tyInt (fun i j=>.grd (0<j) (.ok (i % j))) tyInt:=op_i (C:=fun _ j=>0<j) fun _ _ _=>rfl
theorem zpI_:Op2 K mGt E tyInt tyInt (fun i j=>.ok (decide (j<i))) tyBl:=zqj_ fun _ _ _=>rfl
theorem zpm_:Op2 K mGe E tyInt tyInt (fun i j=>.ok (decide (j≤i))) tyBl:=zqj_ fun _ _ _=>rfl
theorem zdC_:Op2 K mAdd E tyStr tyStr (fun i j=>.lim (i.length+j.length) (.ok (i++j))) tyStr:=by
 intro a b x y F H Q hs hx hy q
 cases hx; cases hy
 obtain ⟨c,q⟩:=q.lim
 exact ⟨c,q.ok hs _ rfl⟩
theorem Prs.append {xs ys:List α}{vs us:List V}(a:Prs T H xs vs) (b:Prs T H ys us):Prs T H (xs++ys) (vs++us):=by
 induction a with
 | nil=>exact b
 | cons r t ih=>exact .cons r ih
theorem Prs.len {xs:List α}{vs:List V}(a:Prs T H xs vs):xs.length=vs.length:=Paired.length a
theorem Prs.get {xs:List α}{vs:List V}(a:Prs T H xs vs) (i:Nat):(xs[i]?=none∧vs[i]?=none)∨∃ x v,xs[i]?=some x∧vs[i]?=some v∧T.R x v H:=by
 induction a generalizing i with
 | nil=>exact .inl ⟨rfl,rfl⟩
 | cons r t ih =>
  cases i with
  | zero=>exact .inr ⟨_,_,rfl,rfl,r⟩
  | succ i=>simpa using ih i
theorem Prs.take {xs:List α}{vs:List V}(a:Prs T H xs vs) (n:Nat):Prs T H (xs.take n) (vs.take n):=by
 induction a generalizing n with
 | nil=>rw [List.take_nil,List.take_nil]; exact .nil
 | cons r t ih =>
  cases n with
  | zero=>exact .nil
  | succ n=>exact .cons r (ih n)
theorem Prs.drop {xs:List α}{vs:List V}(a:Prs T H xs vs) (n:Nat):Prs T H (xs.drop n) (vs.drop n):=by
 induction a generalizing n with
 | nil=>rw [List.drop_nil,List.drop_nil]; exact .nil
 | cons r t ih =>
  cases n with
  | zero=>exact .cons r t
  | succ n=>exact ih n
theorem Prs.set {xs:List α}{vs:List V}(a:Prs T H xs vs) (i:Nat) {x:α}{v:V}(q:T.R x v H):Prs T H (xs.set i x) (vs.set i v):=by
 induction a generalizing i with
 | nil=>exact .nil
 | cons r t ih =>
  cases i with
  | zero=>exact .cons q t
  | succ i=>exact .cons r (ih i)
theorem zmm_ {vs:List V}{xs:List α}{p:Addr}{F' H':Hp}{Q:VK}(hp:H p=none) (h2:H' p=some (.lst vs)) (hf:F' p=none) (hr:Prs T F' xs vs) (q:OwnK (owL T) H Q xs F' H'):Q (.ref p) H':=by
 refine q (.ref p) (one p (.lst vs)) (fun b z=>?_) (fun b=>?_) (fun b o z=>?_) ⟨p,vs,rfl,rfl,hr⟩
 ·unfold one at z; split at z
  ·rename_i e; rw [e]; exact hp
  ·exact absurd rfl z
 ·unfold one; split
  ·rename_i e; rw [e]; exact .inl hf
  ·exact .inr rfl
 ·unfold one at z; split at z
  ·rename_i e; rw [e]; cases z; exact h2
  ·cases z
theorem zet_ {vs:List V}{xs:List α}{p:Addr}{Q:VK}(hs:Same F H) (hp:H p=none) (hr:Prs T F xs vs) (q:After K (.ok xs) E F H (OwnK (owL T) H Q)):Q (.ref p) (upd H p (.lst vs)) :=
 zmm_ hp zaY_ (hs.free hp) hr (q F _ (.heap hs (zep_ hp _)))
theorem zqw_:EvA K tNil E L (.ok ()) csNil:=fun σ F H Q hL hs q=>q.ok hs [] rfl
theorem zj_ (h:EvF K e E L r T):EvA K (tCons e tNil) E L r (csLast T):=by
 intro σ F H Q hL hs q
 exact h σ F H _ hL hs (q.imp fun a F1 H1 x k v hv=>k [v] ⟨v,rfl,hv⟩)
theorem zK_ {ta:TA}{r2:Mo γ}{C:Cs γ}(h:EvF K e E L r T) (h2:EvA K ta E L r2 C):EvA K (tCons e ta) E L (r.bind fun a=>r2.bind fun c=>.ok (a,c)) (csCons T C):=by
 intro σ F H Q hL hs q
 refine h σ F H _ hL hs (q.bind.imp fun a F1 H1 x1 k1 v1 hv1=>?_)
 refine h2 σ F1 H1 _ (hL.mono x1.1) x1.2.1 (k1.bind.imp fun c F2 H2 x2 k2 vs hvs=>?_)
 exact k2.ok x2.2.1 (v1::vs) ⟨v1,vs,rfl,T.mono x2.1 hv1,hvs⟩
noncomputable def Ct (K:PySem.W.Frag) (C:Cs γ) (f:γ→Mo ρ) (O:Own ρ):Sp:=fun vs H Q E=>∃ F c,Same F H∧C.R c vs F∧After K (f c) E F H (OwnK O H Q)
theorem zdJ_ {C:Cs γ}{f:γ→Mo ρ}{O:Own ρ}{ta:TA}{r:Mo γ}(h:EvA K ta E L r C):EvO K (tCall (Ct K C f O) [] E0 ta) E L (r.bind fun c=>(f c).noex) O:=by
 intro σ F H Q hL hs q
 refine h σ F H _ hL hs (q.bind.imp fun c F1 H1 x1 k1 vs hvs=>?_)
 rw [List.append_nil]
 exact ⟨F1,c,x1.2.1,hvs,k1.noex.imp fun r F2 H2 x2 k2=>k2.back x1.2.2.1⟩
noncomputable def Bl (K:PySem.W.Frag) (m:List V→Hp→VK→Prop) (E:XK) (C:Cs γ) (g:γ→Mo α) (T:Ty α):Prop :=
 ∀ c vs F H (Q:VK),Same F H→C.R c vs F→After K (g c) E F H (fun c F' H'=>∀ v,T.R c v F'→Q v H')→m vs H Q
noncomputable def BlO (K:PySem.W.Frag) (m:List V→Hp→VK→Prop) (E:XK) (C:Cs γ) (g:γ→Mo α) (O:Own α):Prop :=
 ∀ c vs F H (Q:VK),Same F H→C.R c vs F→After K (g c) E F H (OwnK O H Q)→m vs H Q
theorem zly_ {m:List V→Hp→VK→Prop}{C:Cs γ}{g:γ→Mo α}{ta:TA}{r:Mo γ}(hb:Bl K m E C g T) (h:EvA K ta E L r C):EvF K (tCB m ta) E L (r.bind g) T:=by
 intro σ F H Q hL hs q
 exact h σ F H _ hL hs (q.bind.imp fun c F1 H1 x1 k1 vs hvs=>hb c vs F1 H1 Q x1.2.1 hvs k1)
theorem ziz_ {m:List V→Hp→VK→Prop}{C:Cs γ}{g:γ→Mo α}{O:Own α}{ta:TA}{r:Mo γ}(hb:BlO K m E C g O) (h:EvA K ta E L r C):EvO K (tCB m ta) E L (r.bind g) O:=by
 intro σ F H Q hL hs q
 exact h σ F H _ hL hs (q.bind.imp fun c F1 H1 x1 k1 vs hvs=>hb c vs F1 H1 Q x1.2.1 hvs (k1.imp fun a F2 H2 x2 k2=>k2.back x1.2.2.1))
theorem zgr_:Bl K (mLen K) E (csLast (tyL T)) (fun l=>.ok (l.length:Int)) tyInt:=by
 rintro c vs F H Q hs ⟨v,rfl,p,us,rfl,h,r⟩ q
 exact ⟨us,.inl (.of (hs _ _ h)),q.ok hs _ (by rw [r.len])⟩
theorem zmt_:Bl K (mLen K) E (csLast (tySc K)) (fun l=>.ok (l.length:Int)) tyInt:=by
 rintro c vs F H Q hs ⟨v,rfl,p,rfl,h⟩ q
 exact ⟨_,.inl (hs.seq h),q.ok hs _ (by rw [List.length_map])⟩
theorem zqo_:Bl K (mTwo max) E (csCons tyInt (csLast tyInt)) (fun c=>.ok (max c.1 c.2)) tyInt:=by
 rintro c vs F H Q hs ⟨v,us,rfl,rfl,w,rfl,rfl⟩ q
 exact q.ok hs _ rfl
theorem zp6_:Bl K (mTwo min) E (csCons tyInt (csLast tyInt)) (fun c=>.ok (min c.1 c.2)) tyInt:=by
 rintro c vs F H Q hs ⟨v,us,rfl,rfl,w,rfl,rfl⟩ q
 exact q.ok hs _ rfl
theorem zqE_:Bl K mStr E (csLast tyInt) (fun i=>.grd (i.natAbs.log2<1920) (.ok (strI i))) tyStr:=by
 rintro c vs F H Q hs ⟨v,rfl,rfl⟩ q
 obtain ⟨z,q⟩:=q.grd
 exact ⟨z,q.ok hs _ rfl⟩
theorem zgw_:BlO K (mList K) E (csLast (tyL T)) (fun l=>.ok l) (owL T):=by
 rintro c vs F H Q hs ⟨v,rfl,p,us,rfl,h,r⟩ q
 exact .inl ⟨us,.inl (.of (hs _ _ h)),fun l hl=>zet_ hs hl r q⟩
theorem zlX_ {xs:List Int}:Prs tyInt H xs (xs.map V.int):=by
 induction xs with
 | nil=>exact .nil
 | cons x xs ih=>exact .cons rfl ih
theorem zgU_:Op2 K (mIx K) E tyStr tyInt (fun l i=>.lim l.length (.opt ((atI l i).map fun c=>[c]))) tyStr:=by
 rintro a b x y F H Q hs rfl rfl q
 obtain ⟨z,q⟩:=q.lim
 obtain ⟨l,e,q⟩:=q.opt
 refine ⟨z,?_⟩
 show (match atI a b with | some c=>Q (tx [c]) H | none=>False)
 cases e1:atI a b with
 | none=>rw [e1] at e; cases e
 | some c=>rw [e1] at e; cases e; exact q.ok hs _ rfl
theorem zmn_ {xs:List α}{vs:List V}(r:Prs T H xs vs) {i:Int}{x:α}(e:atI xs i=some x):∃ v,atI vs i=some v∧T.R x v H:=by
 unfold atI at e ⊢
 rw [← r.len]
 cases e1:ixN xs.length i with
 | none=>rw [e1] at e; cases e
 | some j =>
  rw [e1] at e
  rcases r.get j with ⟨a,b⟩ | ⟨y,v,a,b,c⟩
  ·have:xs[j]?=some x:=e
   rw [a] at this; cases this
  ·have:xs[j]?=some x:=e
   rw [a] at this; cases this
   exact ⟨v,b,c⟩
theorem zec_:Op2 K (mIx K) E (tyL T) tyInt (fun l i=>.opt (atI l i)) T:=by
 rintro a b x y F H Q hs ⟨p,vs,rfl,h,r⟩ rfl q
 obtain ⟨l,e,q⟩:=q.opt
 refine ⟨vs,.inl (.of (hs _ _ h)),?_⟩
 obtain ⟨v,e2,rv⟩:=zmn_ r e
 rw [e2]
 exact q.ok hs v rv
theorem zoU_:Op2 K (mIx K) E (tySc K) tyInt (fun l i=>.opt (atI l i)) tyInt:=by
 rintro a b x y F H Q hs ⟨p,rfl,h⟩ rfl q
 obtain ⟨l,e,q⟩:=q.opt
 refine ⟨_,.inl (hs.seq h),?_⟩
 obtain ⟨v,e2,rv⟩:=zmn_ (H:=F) zlX_ e
 rw [e2]
 exact q.ok hs v rv
noncomputable def CsAt (C:Cs γ) (i:Nat) (T:Ty α) (pr:γ→α):Prop:=∀ {c vs H},C.R c vs H→∃ v,vs[i]?=some v∧T.R (pr c) v H
theorem zje_:CsAt (csLast T) 0 T id:=fun ⟨v,e,h⟩=>⟨v,by rw [e]; rfl,h⟩
theorem at_0 {C:Cs γ}:CsAt (csCons T C) 0 T Prod.fst:=fun ⟨v,us,e,h,q⟩=>⟨v,by rw [e]; rfl,h⟩
theorem at_s {C:Cs γ}{i:Nat}{pr:γ→α}{T':Ty β}(h:CsAt C i T pr):CsAt (csCons T' C) (i+1) T (fun c=>pr c.2):=fun ⟨v,us,e,_,q⟩=>by
 obtain ⟨w,e2,r⟩:=h q
 exact ⟨w,by rw [e]; exact e2,r⟩
theorem ziE_ {C:Cs γ}{i:Nat}{pr:γ→α}{r:Mo γ}(ha:CsAt C i T pr) (h:EvF K e E L r (tyTup C)):EvF K (tOp (mIx K) e (tC (.int i))) E L (r.bind fun c=>.ok (pr c)) T:=by
 intro σ F H Q hL hs q
 refine h σ F H _ hL hs (q.bind.imp fun c F1 H1 x1 k1 v1 ⟨p,us,ev,hp,hc⟩=>?_)
 subst ev
 obtain ⟨w,e2,rw'⟩:=ha hc
 refine ⟨us,.inr (.of (x1.2.1 _ _ hp)),?_⟩
 have e3:atI us (i:Int)=some w:=by
  unfold atI
  rw [zmO_ (by omega) (by have:=(List.getElem?_eq_some_iff.mp e2).1; omega)]
  simpa using e2
 rw [e3]
 exact k1.ok x1.2.1 w rw'
end
end L2
namespace L2
open PySem PySem.Spec PyProof.Rows
section
variable {K:PySem.W.Frag}{E:XK}{α β γ ρ:Type}{F H:Hp}{L:List Sl}{e e1 e2:TE}{T:Ty α}{r:Mo α}
variable {t t1 t2:TT}{b b1 b2:Mo Bool}
theorem zdI_ (h:EvF K e E L b tyBl):EvT K (mTest e) E L b:=by
 intro σ F H Q hL hs q
 refine h σ F H _ hL hs (q.imp fun a F1 H1 x k v hv=>?_)
 cases hv
 exact k
theorem znh_ (h:EvT K t E L b):EvT K (tNot t) E L (b.bind fun c=>.ok (!c)):=by
 intro σ F H Q hL hs q
 exact h σ F H _ hL hs (q.bind.imp fun a F1 H1 x k=>k.ok x.2.1)
theorem et_or (h1:EvT K t1 E L b1) (h2:EvT K t2 E L b2):EvT K (mOr t1 t2) E L (b1.bind fun c=>if c then .ok true else b2):=by
 intro σ F H Q hL hs q
 refine h1 σ F H _ hL hs (q.bind.imp fun a F1 H1 x k=>⟨fun c=>?_,fun c=>?_⟩)
 ·rw [if_pos c] at k; exact k.ok x.2.1
 ·rw [if_neg (by rw [c]; decide)] at k; exact h2 σ F1 H1 _ (hL.mono x.1) x.2.1 k
theorem zop_ (h1:EvF K e1 E L b1 tyBl) (h2:EvF K e2 E L b2 tyBl):EvF K (mAndV e1 e2) E L (b1.bind fun c=>if c then b2 else .ok false) tyBl:=by
 intro σ F H Q hL hs q
 refine h1 σ F H _ hL hs (q.bind.imp fun a F1 H1 x k v hv=>?_)
 cases hv
 refine ⟨fun c=>?_,fun c=>?_⟩
 ·rw [if_pos c] at k; exact h2 σ F1 H1 _ (hL.mono x.1) x.2.1 k
 ·rw [if_neg (by rw [c]; decide)] at k; exact k.ok x.2.1 _ rfl
theorem zpl_ {r:Mo Int}(h1:EvF K e1 E L r tyInt):EvF K (mNeg e1) E L (r.bind fun c=>.ok (-c)) tyInt:=by
 intro σ F H Q hL hs q
 refine h1 σ F H _ hL hs (q.bind.imp fun a F1 H1 x k v hv=>?_)
 cases hv
 exact k.ok x.2.1 _ rfl
theorem ev_if {r1 r2:Mo α}(ht:EvT K t E L b) (h1:EvF K e1 E L r1 T) (h2:EvF K e2 E L r2 T):EvF K (mIf t e1 e2) E L (b.bind fun c=>if c then r1 else r2) T:=by
 intro σ F H Q hL hs q
 refine ht σ F H _ hL hs (q.bind.imp fun a F1 H1 x k=>⟨fun c=>?_,fun c=>?_⟩)
 ·rw [if_pos c] at k; exact h1 σ F1 H1 _ (hL.mono x.1) x.2.1 k
 ·rw [if_neg (by rw [c]; decide)] at k; exact h2 σ F1 H1 _ (hL.mono x.1) x.2.1 k
theorem After.more {k:α→Hp→Hp→Prop}(h:After K r E F H k):After K r E F H fun a F1 H1=>∀ F2 H2,Ext F1 H1 F2 H2→k a F2 H2:=by
 cases r with
 | ok a=>exact fun F1 H1 x F2 H2 y=>h F2 H2 (x.trans y)
 | ex c=>exact h
 | no=>exact h
noncomputable def CsN (C:Cs γ) (n:Nat):Prop:=∀ {c vs H},C.R c vs H→vs.length=n
theorem zic_:CsN csNil 0:=fun e=>by rw [e]; rfl
theorem zf_:CsN (csLast T) 1:=fun ⟨v,e,_⟩=>by rw [e]; rfl
theorem zl_ {C:Cs γ}{n:Nat}(h:CsN C n):CsN (csCons T C) (n+1):=fun ⟨v,us,e,_,q⟩=>by rw [e,List.length_cons,h q]
theorem zoz_ {ta:TA}{C:Cs γ}{r:Mo γ}{n:Nat}(hl:CsN C n) (h:EvA K ta E L r C) (hn:n≤100:=by decide):EvF K (tTup ta) E L r (tyTup C):=by
 intro σ F H Q hL hs q
 refine h σ F H _ hL hs (q.more.imp fun c F1 H1 x1 k1 vs hvs=>⟨zeu_ (by rw [hl hvs]; omega),fun p hp=>?_⟩)
 have x:=Ext.new (o:=.tup vs) x1.2.1 hp
 exact k1 _ _ x _ ⟨p,vs,rfl,zaY_,C.mono x.1 hvs⟩
noncomputable def CsL (C:Cs γ) (T:Ty α) (f:γ→List α):Prop:=∀ {c vs H},C.R c vs H→Prs T H (f c) vs
theorem zdK_:CsL (csLast T) T fun a=>[a]:=fun ⟨v,e,h⟩=>by rw [e]; exact .cons h .nil
theorem zem_ {C:Cs γ}{f:γ→List α}(h:CsL C T f):CsL (csCons T C) T fun c=>c.1::f c.2:=fun ⟨v,us,e,q,z⟩=>by rw [e]; exact .cons q (h z)
theorem zhO_ {ta:TA}{C:Cs γ}{r:Mo γ}{n:Nat}{f:γ→List α}(hl:CsN C n) (hf:CsL C T f) (h:EvA K ta E L r C) (hn:n≤100:=by decide):EvO K (tLst ta) E L (r.bind fun c=>.ok (f c)) (owL T):=by
 intro σ F H Q hL hs q
 refine h σ F H _ hL hs (q.bind.imp fun c F1 H1 x1 k1 vs hvs=>⟨zeu_ (by rw [hl hvs]; omega),fun p hp=>?_⟩)
 exact zet_ x1.2.1 hp (hf hvs) (k1.imp fun a F2 H2 x2 k2=>k2.back x1.2.2.1)
theorem zd1_ (T:Ty α):EvO K (tLst tNil) E L (.ok []) (owL T):=by
 intro σ F H Q hL hs q
 exact ⟨Nat.zero_le _,fun p hp=>zet_ hs hp (T:=T) .nil q⟩
noncomputable def EvP (K:PySem.W.Frag) (t:TO) (E:XK) (L:List Sl) (r:Mo (Option Int)):Prop :=
 ∀ σ F H (Q:Option Int→Hp→Prop),HoldF L σ F→Same F H→After K r E F H (fun b _ H'=>Q b H')→t σ H Q
theorem zpV_:EvP K tNoPart E L (.ok none):=fun σ F H Q hL hs q=>q.ok hs
theorem zlk_ {r:Mo Int}(h:EvF K e E L r tyInt):EvP K (mPart e) E L (r.bind fun i=>.ok (some i)):=by
 intro σ F H Q hL hs q
 refine h σ F H _ hL hs (q.bind.imp fun a F1 H1 x k v hv=>?_)
 cases hv
 exact k.ok x.2.1
noncomputable def cutG (xs:List α) (lo hi:Option Int):List α:=(xs.drop (HT.sIx xs.length 0 lo)).take (HT.sIx xs.length xs.length hi-HT.sIx xs.length 0 lo)
theorem zl4_ {xs:List α}{vs:List V}(q:Prs T H xs vs) (lo hi:Option Int):Prs T H (cutG xs lo hi) (cutV vs lo hi):=by
 unfold cutG cutV
 rw [← q.len]
 exact (q.drop _).take _
variable {tl th:TO}{rl rh:Mo (Option Int)}
theorem zlh_ {r:Mo (List Nat)}(h:EvF K e E L r tyStr) (hl:EvP K tl E L rl) (hh:EvP K th E L rh):EvF K (tSl (mSl K) e tl th) E L (r.bind fun l=>rl.bind fun a=>rh.bind fun b=>.lim l.length (.ok (cutG l a b))) tyStr:=by
 intro σ F H Q hL hs q
 refine h σ F H _ hL hs (q.bind.imp fun l F1 H1 x1 k1 v hv=>?_)
 refine hl σ F1 H1 _ (hL.mono x1.1) x1.2.1 (k1.bind.imp fun a F2 H2 x2 k2=>?_)
 refine hh σ F2 H2 _ (hL.mono (x1.1.trans x2.1)) x2.2.1 (k2.bind.imp fun b F3 H3 x3 k3=>?_)
 cases hv
 obtain ⟨z,k3⟩:=k3.lim
 exact ⟨z,k3.ok x3.2.1 _ rfl⟩
theorem zpS_ {r:Mo (List α)}(h:EvF K e E L r (tyL T)) (hl:EvP K tl E L rl) (hh:EvP K th E L rh):EvO K (tSl (mSl K) e tl th) E L (r.bind fun l=>rl.bind fun a=>rh.bind fun b=>.ok (cutG l a b)) (owL T):=by
 intro σ F H Q hL hs q
 refine h σ F H _ hL hs (q.bind.imp fun l F1 H1 x1 k1 v hv=>?_)
 refine hl σ F1 H1 _ (hL.mono x1.1) x1.2.1 (k1.bind.imp fun a F2 H2 x2 k2=>?_)
 refine hh σ F2 H2 _ (hL.mono (x1.1.trans x2.1)) x2.2.1 (k2.bind.imp fun b F3 H3 x3 k3=>?_)
 obtain ⟨p,vs,rfl,hp,hr⟩:=hv
 have x:=x2.1.trans x3.1
 exact ⟨vs,.of (x3.2.1 _ _ (x _ _ hp)),fun q hq=>zet_ x3.2.1 hq (zl4_ (hr.mono x) a b) (k3.imp fun _ _ _ _ z=>z.back ((x1.2.2.1.trans x2.2.2.1).trans x3.2.2.1))⟩
theorem zok_ {r:Mo (List Int)}(h:EvF K e E L r (tySc K)) (hl:EvP K tl E L rl) (hh:EvP K th E L rh):EvO K (tSl (mSl K) e tl th) E L (r.bind fun l=>rl.bind fun a=>rh.bind fun b=>.ok (cutG l a b)) (owL tyInt):=by
 intro σ F H Q hL hs q
 refine h σ F H _ hL hs (q.bind.imp fun l F1 H1 x1 k1 v hv=>?_)
 refine hl σ F1 H1 _ (hL.mono x1.1) x1.2.1 (k1.bind.imp fun a F2 H2 x2 k2=>?_)
 refine hh σ F2 H2 _ (hL.mono (x1.1.trans x2.1)) x2.2.1 (k2.bind.imp fun b F3 H3 x3 k3=>?_)
 obtain ⟨p,rfl,hp⟩:=hv
 have x:=x2.1.trans x3.1
 exact ⟨_,x3.2.1.seq (x.seq hp),fun q hq=>zet_ x3.2.1 hq (zl4_ zlX_ a b) (k3.imp fun _ _ _ _ z=>z.back ((x1.2.2.1.trans x2.2.2.1).trans x3.2.2.1))⟩
structure EqT (K:PySem.W.Frag) (T:Ty α) (n:Nat) (q:α→α→Bool):Prop where
 eq:∀ {a b x y H},T.R a x H→T.R b y H→EqD K H n x y (q a b)
theorem ziq_:EqT K tyInt 0 (fun a b=>decide (a=b)):=⟨by
 rintro a b x y H rfl rfl
 have:eqV (.int a) (.int b)=decide (a=b):=by unfold eqV; exact rfl
 rw [← this]; exact .flat rfl rfl⟩
theorem zlZ_:EqT K tyStr 0 (fun a b=>decide (a=b)):=⟨by
 rintro a b x y H rfl rfl
 have:eqV (tx a) (tx b)=decide (a=b):=by
  unfold eqV
  rw [Bool.eq_iff_iff,decide_eq_true_iff]
  constructor
  ·intro h
   have h:=eq_of_beq h
   injection h with h
   have:=congrArg Array.toList h
   simpa using this
  ·rintro rfl; exact beq_self_eq_true _
 rw [← this]; exact .flat rfl rfl⟩
noncomputable def eqL (q:α→α→Bool):List α→List α→Bool
 | [],[]=>true
 | x::xs,y::ys=>q x y && eqL q xs ys
 | _,_=>false
theorem zl2_ {q:α→α→Bool}:∀ {xs ys:List α},xs.length≠ys.length→eqL q xs ys=false
 | [],[],h=>absurd rfl h
 | [],_::_,_=>rfl
 | _::_,[],_=>rfl
 | x::xs,y::ys,h=>by unfold eqL; rw [zl2_ (by simpa using h),Bool.and_false]
theorem zmj_ {q:α→α→Bool}:∀ {xs ys:List α},xs.length=ys.length→eqL q xs ys=(List.range xs.length).all fun i=>match xs[i]?,ys[i]? with | some x,some y=>q x y | _,_=>true
 | [],[],_=>rfl
 | x::xs,y::ys,h=>by
  unfold eqL
  rw [List.length_cons,List.range_succ_eq_map,List.all_cons,List.all_map,zmj_ (by simpa using h)]
  rfl
theorem zmX_ {n:Nat}{q:α→α→Bool}(h:EqT K T n q):EqT K (tyL T) (n+1) (eqL q):=⟨by
 rintro a b x y H ⟨p,vs,rfl,hp,hr⟩ ⟨p2,us,rfl,hp2,hr2⟩
 by_cases hl:a.length=b.length
 ·rw [zmj_ hl,hr.len]
  refine .lst _ (.of hp) (.of hp2) (by rw [← hr.len,← hr2.len,hl]) fun i x y hx hy=>?_
  rcases hr.get i with ⟨_,z⟩ | ⟨x1,v1,e1,e2,r1⟩
  ·rw [z] at hx; cases hx
  rcases hr2.get i with ⟨_,z⟩ | ⟨x2,v2,e3,e4,r2⟩
  ·rw [z] at hy; cases hy
  rw [e2] at hx; cases hx
  rw [e4] at hy; cases hy
  simp only [e1,e3]
  exact h.eq r1 r2
 ·rw [zl2_ hl]
  exact .lstN (.of hp) (.of hp2) (by rw [← hr.len,← hr2.len]; exact hl)⟩
structure EqC (K:PySem.W.Frag) (C:Cs γ) (n m:Nat) (q:γ→γ→Bool):Prop where
 eq:∀ {a b xs ys H},C.R a xs H→C.R b ys H→xs.length=m∧ys.length=m∧∃ e:Nat→Bool,(∀ i x y,xs[i]?=some x→ys[i]?=some y→EqD K H n x y (e i))∧(List.range m).all e=q a b
theorem EqD.le {H:Hp}{n m:Nat}{x y:V}{b:Bool}(h:EqD K H n x y b) (g:n≤m):EqD K H m x y b:=by
 induction g with
 | refl=>exact h
 | step _ ih=>exact .up ih
theorem zmH_ {n:Nat}{q:α→α→Bool}(h:EqT K T n q):EqC K (csLast T) n 1 q:=⟨by
 rintro a b xs ys H ⟨v,rfl,hv⟩ ⟨u,rfl,hu⟩
 refine ⟨rfl,rfl,fun _=>q a b,fun i x y hx hy=>?_,by simp [List.range_succ]⟩
 cases i with
 | zero=>cases hx; cases hy; exact h.eq hv hu
 | succ i=>cases hx⟩
theorem zmv_ {C:Cs γ}{n m k:Nat}{q:α→α→Bool}{q':γ→γ→Bool}(h:EqT K T n q) (h':EqC K C k m q'):EqC K (csCons T C) (max n k) (m+1) (fun a b=>q a.1 b.1 && q' a.2 b.2):=⟨by
 rintro a b xs ys H ⟨v,us,rfl,hv,hc⟩ ⟨u,ws,rfl,hu,hc'⟩
 obtain ⟨l1,l2,e,he,ea⟩:=h'.eq hc hc'
 refine ⟨by rw [List.length_cons,l1],by rw [List.length_cons,l2],fun i=>match i with | 0=>q a.1 b.1 | j+1=>e j,fun i x y hx hy=>?_,?_⟩
 ·cases i with
  | zero=>cases hx; cases hy; exact (h.eq hv hu).le (Nat.le_max_left _ _)
  | succ i=>exact (he i x y (by simpa using hx) (by simpa using hy)).le (Nat.le_max_right _ _)
 ·rw [List.range_succ_eq_map,List.all_cons,List.all_map,← ea]; rfl⟩
theorem zoc_ {C:Cs γ}{n m:Nat}{q:γ→γ→Bool}(h:EqC K C n m q):EqT K (tyTup C) (n+1) q:=⟨by
 rintro a b x y H ⟨p,us,rfl,hp,hc⟩ ⟨p2,ws,rfl,hp2,hc2⟩
 obtain ⟨l1,l2,e,he,ea⟩:=h.eq hc hc2
 have:=EqD.tup e (.of hp) (.of hp2) he (K:=K)
 rw [l1,l2,Nat.min_self,ea,beq_self_eq_true,Bool.and_true] at this
 exact this⟩
theorem zpn_ {n:Nat}{q:α→α→Bool}(h:EqT K T n q) (hn:n≤50:=by decide) (hr:∀ {a x H},T.R a x H→∃ p,x=.ref p):Op2 K (mEqK K) E T T (fun a b=>.ok (q a b)) tyBl:=by
 intro a b x y F H Q hs hx hy k
 have hd:=h.eq (T.mono hs hx) (T.mono hs hy)
 obtain ⟨p,rfl⟩:=hr hx
 obtain ⟨p2,rfl⟩:=hr hy
 exact ⟨n,_,hn,hd,k.ok hs _ rfl⟩
theorem zqD_ {n:Nat}{q:α→α→Bool}(h:EqT K T n q) (hn:n≤50:=by decide) (hr:∀ {a x H},T.R a x H→∃ p,x=.ref p):Op2 K (mNeK K) E T T (fun a b=>.ok (!(q a b))) tyBl:=by
 intro a b x y F H Q hs hx hy k
 have hd:=h.eq (T.mono hs hx) (T.mono hs hy)
 obtain ⟨p,rfl⟩:=hr hx
 obtain ⟨p2,rfl⟩:=hr hy
 exact ⟨n,_,hn,hd,k.ok hs _ rfl⟩
theorem ref_l {a:List α}{x:V}{H:Hp}(h:(tyL T).R a x H):∃ p,x=.ref p:=by obtain ⟨p,_,e,_⟩:=h; exact ⟨p,e⟩
theorem znN_ {n:Nat}{q:α→α→Bool}(h:EqT K (tyL T) n (eqL q)) (hn:n≤50:=by decide):Op2 K (mEqK K) E (tyL T) (tyL T) (fun a b=>.ok (eqL q a b)) tyBl:=zpn_ h hn ref_l
theorem zmC_ {n:Nat}{q:α→α→Bool}(h:EqT K (tyL T) n (eqL q)) (hn:n≤50:=by decide):Op2 K (mNeK K) E (tyL T) (tyL T) (fun a b=>.ok (!(eqL q a b))) tyBl:=zqD_ h hn ref_l
theorem zp3_:Op2 K (mNeK K) E tyStr tyStr (fun a b=>.ok (!decide (a=b))) tyBl:=by
 rintro a b x y F H Q hs rfl rfl k
 exact k.ok hs _ rfl
theorem zoT_:Op2 K mIs E (tyOpt T) tyNon (fun a _=>.ok a.isNone) tyBl:=by
 rintro a b x y F H Q hs hx rfl k
 have:decide (x=.non)=a.isNone:=by
  cases a with
  | none=>cases hx; rfl
  | some a=>exact decide_eq_false hx.2
 show (match mIsB x .non with | some b=>Q (.bl b) H | none=>False)
 have e:mIsB x .non=some (decide (x=.non)):=rfl
 rw [e,this]
 exact k.ok hs _ rfl
theorem zm3_:Op2 K mIsNot E (tyOpt T) tyNon (fun a _=>.ok a.isSome) tyBl:=by
 rintro a b x y F H Q hs hx rfl k
 have:(!decide (x=.non))=a.isSome:=by
  cases a with
  | none=>cases hx; rfl
  | some a=>rw [decide_eq_false hx.2]; rfl
 show (match mIsB x .non with | some b=>Q (.bl (!b)) H | none=>False)
 have e:mIsB x .non=some (decide (x=.non)):=rfl
 rw [e]
 show Q (.bl (!decide (x=.non))) H
 rw [this]
 exact k.ok hs _ rfl
theorem zp8_:Op2 K (mIn K false) E tyStr tyStr (fun a b=>.ok (inS a b)) tyBl:=by
 rintro a b x y F H Q hs rfl rfl k
 exact k.ok hs _ rfl
noncomputable def TyN (K:PySem.W.Frag) (T:Ty α) (n:String):Prop:=∀ {a x H},T.R a x H→tyS K H x n
theorem zpv_:TyN K tyStr "str" := fun h=>by cases h; rfl
theorem tn_l:TyN K (tyL T) "list" := fun ⟨p,vs,e,h,_⟩=>by subst e; exact .inl ⟨rfl,vs,h⟩
theorem zoH_ {x:V}{n c:String}{bb:Bool}{Q:VK}(h:tyS K H x n) (hb:isaB n c=some bb) (q:Q (.bl bb) H):mIsa K [x,.ty c] H Q:=by
 cases x with
 | non=>cases (show n=_ from h); show (match isaB "NoneType" c with | some b=>Q (.bl b) H | none=>False); rw [hb]; exact q
 | bl _=>cases (show n=_ from h); show (match isaB "bool" c with | some b=>Q (.bl b) H | none=>False); rw [hb]; exact q
 | int _=>cases (show n=_ from h); show (match isaB "int" c with | some b=>Q (.bl b) H | none=>False); rw [hb]; exact q
 | str _=>cases (show n=_ from h); show (match isaB "str" c with | some b=>Q (.bl b) H | none=>False); rw [hb]; exact q
 | ref p=>exact ⟨n,h,by rw [hb]; exact q⟩
 | _=>exact h.elim
theorem znO_ {n c:String}{bb:Bool}(hn:TyN K T n) (h:EvF K e E L r T) (hb:isaB n c=some bb:=by decide):EvF K (tCB (mIsa K) (tCons e (tCons (tC (.ty c)) tNil))) E L (r.bind fun _=>.ok bb) tyBl:=by
 intro σ F H Q hL hs q
 refine h σ F H _ hL hs (q.bind.imp fun l F1 H1 x1 k1 v hv=>?_)
 exact zoH_ (hn (T.mono x1.2.1 hv)) hb (k1.ok x1.2.1 _ rfl)
noncomputable def Me (K:PySem.W.Frag) (m:V→List V→Hp→VK→Prop) (E:XK) (C:Cs γ) (g:List Nat→γ→Mo α) (T:Ty α):Prop :=
 ∀ l c vs F H (Q:VK),Same F H→C.R c vs F→After K (g l c) E F H (fun c F' H'=>∀ v,T.R c v F'→Q v H')→m (tx l) vs H Q
theorem znE_ {m:V→List V→Hp→VK→Prop}{C:Cs γ}{g:List Nat→γ→Mo α}{ta:TA}{r0:Mo (List Nat)}{r:Mo γ}(hb:Me K m E C g T) (h0:EvF K e E L r0 tyStr) (h:EvA K ta E L r C):EvF K (tBM K "str" m e ta) E L (r0.bind fun l=>r.bind fun c=>g l c) T:=by
 intro σ F H Q hL hs q
 refine h0 σ F H _ hL hs (q.bind.imp fun l F1 H1 x1 k1 v hv=>?_)
 cases hv
 refine ⟨rfl,h σ F1 H1 _ (hL.mono x1.1) x1.2.1 (k1.bind.imp fun c F2 H2 x2 k2 vs hvs=>hb l c vs F2 H2 Q x2.2.1 hvs k2)⟩
theorem zn2_:Me K mFind E (csLast tyStr) (fun l c=>.ok (findS l c)) tyInt:=by
 rintro l c vs F H Q hs ⟨v,rfl,rfl⟩ k
 exact k.ok hs _ rfl
theorem zmS_:Me K mIndex E (csLast tyStr) (fun l c=>.grd (findS l c ≠ -1) (.ok (findS l c))) tyInt:=by
 rintro l c vs F H Q hs ⟨v,rfl,rfl⟩ k
 obtain ⟨z,k⟩:=k.grd
 exact ⟨z,k.ok hs _ rfl⟩
noncomputable def zfL (l:List Nat) (i:Int):List Nat:=(Txt.zfill ⟨l.toArray⟩ i).cps.toList
theorem znu_:Me K mZfill E (csLast tyInt) (fun l i=>.grd (PadOk i=true) (.ok (zfL l i))) tyStr:=by
 rintro l c vs F H Q hs ⟨v,rfl,rfl⟩ k
 obtain ⟨z,k⟩:=k.grd
 exact ⟨z,k.ok hs _ rfl⟩
end
end L2
namespace L2
open PySem PySem.Spec PyProof.Rows
section
variable {K:PySem.W.Frag}{E:XK}{α β γ ρ S S' B:Type}{F H:Hp}{L:List Sl}{e e1 e2:TE}{T:Ty α}{r:Mo α}
noncomputable def setL (L:List Sl) (ss:List (Nat×Sl)):List Sl:=ss.foldl (fun L q=>L.set q.1 q.2) L
noncomputable def setS (σ:St) (ss:List (Nat×Option V)):St:=ss.foldl (fun L q=>L.set q.1 q.2) σ
inductive Plain (F:Hp):List (Nat×Sl)→List (Nat×Option V)→Prop
 | nil:Plain F [] []
 | cons {α:Type}{T:Ty α}{a:α}{i:Nat}{v:V}{ss vs} (h:T.R a v F) (t:Plain F ss vs):Plain F ((i,.fz T a)::ss) ((i,some v)::vs)
noncomputable def TgR (K:PySem.W.Frag) (g:TG) (T:Ty α) (ss:α→List (Nat×Sl)):Prop :=
 ∀ a v σ F H (Q:St→Hp→Prop),Same F H→T.R a v F→(∀ vs,Plain F (ss a) vs→Q (setS σ vs) H)→g v σ H Q
theorem zav_ (i:Nat):TgR K (gName i) T fun a=>[(i,.fz T a)]:=by
 intro a v σ F H Q hs hv q
 exact q [(i,some v)] (.cons hv .nil)
noncomputable def TgC (K:PySem.W.Frag) (g:TGs) (C:Cs γ) (ss:γ→List (Nat×Sl)):Prop :=
 ∀ a vs σ F H (Q:St→Hp→Prop),Same F H→C.R a vs F→(∀ us,Plain F (ss a) us→Q (setS σ us) H)→g vs σ H Q
theorem zgB_ {g:TG}{ss:α→List (Nat×Sl)}(h:TgR K g T ss):TgC K (gConsM g gNilM) (csLast T) ss:=by
 rintro a vs σ F H Q hs ⟨v,rfl,hv⟩ q
 exact h a v σ F H _ hs hv fun us hu=>q us hu
theorem zg9_ (i:Nat) {g:TGs}{C:Cs γ}{ss:γ→List (Nat×Sl)}(h:TgC K g C ss):TgC K (gConsM (gName i) g) (csCons T C) fun c=>(i,.fz T c.1)::ss c.2:=by
 rintro a vs σ F H Q hs ⟨v,us,rfl,hv,hc⟩ q
 exact h a.2 us _ F H _ hs hc fun ws hw=>q ((i,some v)::ws) (.cons hv hw)
theorem zjr_ {n:Nat}{g:TGs}{C:Cs γ}{ss:γ→List (Nat×Sl)}(hn:CsN C n) (h:TgC K g C ss):TgR K (gTupM K n g) (tyTup C) ss:=by
 rintro a v σ F H Q hs ⟨p,us,rfl,hp,hc⟩ q
 exact ⟨us,.of (hs _ _ hp),hn hc,h a us σ F H Q hs hc q⟩
theorem zhE_ {σ:St}{i j:Nat}{o:Option V}(h:i<σ.length):((σ.set i o)[j]?).join=if i=j then o else (σ[j]?).join:=by
 rw [List.getElem?_set]
 split
 ·rename_i e; subst e; first | rfl | (rw [if_pos h]; rfl)
 ·rfl
theorem zlL_ {σ:St}{i:Nat}{s:Sl}{o:Option V}(hl:L.length=σ.length) (h:HoldF L σ F) (hs:s.Z o F):HoldF (L.set i s) (σ.set i o) F:=by
 intro j t e
 rw [List.getElem?_set] at e
 split at e
 ·rename_i z; subst z
  split at e
  ·rename_i y; cases e
   rw [zhE_ (by rw [← hl]; exact y),if_pos rfl]; exact hs
  ·cases e
 ·rename_i z
  by_cases y:i<σ.length
  ·rw [zhE_ y,if_neg z]; exact h j t e
  ·rw [List.set_eq_of_length_le (by omega)]; exact h j t e
theorem zfP_ {ss:List (Nat×Sl)}{vs:List (Nat×Option V)}(p:Plain F ss vs):∀ {L:List Sl}{σ:St},L.length=σ.length→HoldF L σ F→HoldF (setL L ss) (setS σ vs) F∧(setS σ vs).length=σ.length∧(setL L ss).length=L.length:=by
 induction p with
 | nil=>exact fun hl h=>⟨h,rfl,rfl⟩
 | cons hv t ih =>
  rename_i T a i v ss vs
  intro L σ hl h
  obtain ⟨a1,b,c⟩:=ih (L:=L.set i (.fz T a)) (σ:=σ.set i (some v)) (by rw [List.length_set,List.length_set]; exact hl) (zlL_ (s:=.fz T a) hl h ⟨v,rfl,hv⟩)
  exact ⟨a1,b.trans (by rw [List.length_set]),c.trans (by rw [List.length_set])⟩
noncomputable def DeadAt (L:List Sl) (is:List Nat):Prop:=∀ i∈is,∀ s,L[i]?=some s→s=.dead
theorem zj4_ {ss:List (Nat×Sl)}{vs:List (Nat×Option V)}(p:Plain F ss vs):∀ {L:List Sl}{σ:St},L.length=σ.length→DeadAt L (ss.map (·.1))→HoldF L σ F→HoldF L (setS σ vs) F:=by
 induction p with
 | nil=>exact fun hl d h=>h
 | cons hv t ih =>
  rename_i i v ss vs
  intro L σ hl d h
  refine ih (σ:=σ.set i (some v)) (by rw [List.length_set]; exact hl) (fun j hj=>d j (List.mem_cons_of_mem _ hj)) fun j s e=>?_
  by_cases y:i<σ.length
  ·rw [zhE_ y]
   split
   ·rename_i z; subst z
    rw [d i List.mem_cons_self s e]; trivial
   ·exact h j s e
  ·rw [List.set_eq_of_length_le (by omega)]; exact h j s e
theorem zkk_ {ss:List (Nat×Sl)}{vs:List (Nat×Option V)}(p:Plain F ss vs) {j:Nat}:∀ {σ:St},j∉ss.map (·.1)→(setS σ vs)[j]?=σ[j]?:=by
 induction p with
 | nil=>exact fun _=>rfl
 | cons hv t ih =>
  rename_i i v ss vs
  intro σ hj
  have h1:i≠j:=fun z=>hj (by rw [← z]; exact List.mem_cons_self)
  have h2:=ih (σ:=σ.set i (some v)) fun z=>hj (List.mem_cons_of_mem _ z)
  exact h2.trans (List.getElem?_set_ne h1)
structure Yl (K:PySem.W.Frag) (J:It) (xs:List α) (T:Ty α) (F1:Hp):Prop where
 go:∀ i H x,Same F1 H→xs[i]?=some x→J.go i H∧∀ v H',J.yld i H v H'→∀ F,Same F1 F→Same F H→∃ F',Ext F H F' H'∧T.R x v F'
 stop:∀ H,Same F1 H→J.stop xs.length H
noncomputable def EvI (K:PySem.W.Frag) (wi:TI) (E:XK) (L:List Sl) (r:Mo (List α)) (T:Ty α):Prop :=
 ∀ σ F H (R:It→Hp→Prop),HoldF L σ F→Same F H→After K r E F H (fun xs F' H'=>∀ J,Yl K J xs T F'→R J H')→wi σ H R
theorem znn_ {r:Mo (List Nat)}(h:EvF K e E L r tyStr):EvI K (iAny K e) E L (r.bind fun l=>.ok (l.map fun c=>[c])) tyStr:=by
 intro σ F H R hL hs q
 refine h σ F H _ hL hs (q.bind.imp fun l F1 H1 x1 k1 v hv=>?_)
 cases hv
 refine k1.ok x1.2.1 _ ⟨fun i H x hH hx=>?_,fun H hH=>?_⟩
 ·rw [List.getElem?_map] at hx
  cases e:l[i]? with
  | none=>rw [e] at hx; cases hx
  | some c =>
   rw [e] at hx; cases hx
   have hi:=(List.getElem?_eq_some_iff.mp e).1
   refine ⟨hi,?_⟩
   rintro v H' ⟨rfl,rfl⟩ F _ hF
   refine ⟨F,.refl hF,?_⟩
   show tx [l.getD i 0]=tx [c]
   rw [List.getD_eq_getElem?_getD,e]; rfl
 ·show l.length≤(l.map fun c=>[c]).length
  rw [List.length_map]; exact Nat.le_refl _
theorem ei_l {r:Mo (List α)}(h:EvF K e E L r (tyL T)):EvI K (iAny K e) E L r T:=by
 intro σ F H R hL hs q
 refine h σ F H _ hL hs (q.imp fun l F1 H1 x1 k1 v hv=>?_)
 obtain ⟨p,vs,rfl,hp,hr⟩:=hv
 refine .inl ⟨⟨vs,.of (x1.2.1 _ _ hp)⟩,k1 _ ⟨fun i H x hH hx=>?_,fun H hH=>⟨vs,.of (hH _ _ hp),by rw [hr.len]; exact Nat.le_refl _⟩⟩⟩
 rcases hr.get i with ⟨a,_⟩ | ⟨y,u,a,b,c⟩
 ·rw [a] at hx; cases hx
 ·rw [a] at hx; cases hx
  refine ⟨⟨vs,u,.of (hH _ _ hp),b⟩,?_⟩
  rintro v H' ⟨rfl,z⟩ F hF hF'
  have e:=z vs (.of (hH _ _ hp))
  rw [b] at e; cases e
  exact ⟨F,.refl hF',T.mono hF c⟩
noncomputable def rngI (lo:Int) (n:Nat):List Int:=(List.range n).map fun (i:Nat)=>lo+i
theorem zn0_ {lo:Int}{n:Nat}{F1:Hp}:Yl K (Itr lo n) (rngI lo n) tyInt F1:=by
 refine ⟨fun i H x hH hx=>?_,fun H hH=>?_⟩
 ·unfold rngI at hx
  rw [List.getElem?_map] at hx
  cases e:(List.range n)[i]? with
  | none=>rw [e] at hx; cases hx
  | some c =>
   rw [e] at hx; cases hx
   obtain ⟨hi,e⟩:=List.getElem?_eq_some_iff.mp e
   rw [List.getElem_range] at e; subst e
   rw [List.length_range] at hi
   refine ⟨hi,?_⟩
   rintro v H' ⟨rfl,rfl⟩ F _ hF
   exact ⟨F,.refl hF,rfl⟩
 ·show n≤_
  unfold rngI; rw [List.length_map,List.length_range]; exact Nat.le_refl _
theorem zfT_ {r:Mo Int}{ta:TA}(h:EvA K ta E L r (csLast tyInt)):EvI K (mRng1 ta) E L (r.bind fun j=>.grd (-(2 ^ 62)≤j∧j<2 ^ 62) (.ok (rngI 0 j.toNat))) tyInt:=by
 intro σ F H R hL hs q
 refine h σ F H _ hL hs (q.bind.imp fun l F1 H1 x1 k1 v hv=>?_)
 obtain ⟨u,rfl,rfl⟩:=hv
 obtain ⟨z,k1⟩:=k1.grd
 exact ⟨z.1,z.2,k1.ok x1.2.1 _ zn0_⟩
theorem zlQ_ {r:Mo (Int×Int)}{ta:TA}(h:EvA K ta E L r (csCons tyInt (csLast tyInt))):EvI K (mRng2 ta) E L (r.bind fun c=>.grd (-(2 ^ 62)≤c.1∧c.1<2 ^ 62 ∧ -(2 ^ 62)≤c.2∧c.2<2 ^ 62) (.ok (rngI c.1 (c.2-c.1).toNat))) tyInt:=by
 intro σ F H R hL hs q
 refine h σ F H _ hL hs (q.bind.imp fun l F1 H1 x1 k1 v hv=>?_)
 obtain ⟨u,us,rfl,rfl,w,rfl,rfl⟩:=hv
 obtain ⟨z,k1⟩:=k1.grd
 exact ⟨z,k1.ok x1.2.1 _ zn0_⟩
noncomputable def enumL (xs:List α):List (Int×α):=(List.range xs.length).zip xs |>.map fun q=>((q.1:Int),q.2)
theorem ziv_ (xs:List α) (i:Nat):(enumL xs)[i]?=(xs[i]?).map fun x=>((i:Int),x):=by
 unfold enumL
 rw [List.getElem?_map]
 cases e:xs[i]? with
 | none =>
  have:=List.getElem?_eq_none_iff.mp e
  rw [List.getElem?_eq_none (by rw [List.length_zip,List.length_range]; omega)]; rfl
 | some x =>
  have hi:=(List.getElem?_eq_some_iff.mp e).1
  have:((List.range xs.length).zip xs)[i]?=some (i,x):=List.getElem?_zip_eq_some.mpr ⟨by rw [List.getElem?_range hi],e⟩
  rw [this]; rfl
theorem zgb_ (xs:List α):(enumL xs).length=xs.length:=by unfold enumL; rw [List.length_map,List.length_zip,List.length_range,Nat.min_self]
theorem zj6_ {r:Mo (List α)}{ta:TA}(h:EvA K ta E L r (csLast (tyL T))):EvI K (iEnum K ta) E L (r.bind fun l=>.ok (enumL l)) (tyTup (csCons tyInt (csLast T))):=by
 intro σ F H R hL hs q
 refine h σ F H _ hL hs (q.bind.imp fun l F1 H1 x1 k1 vs hv=>?_)
 obtain ⟨v,rfl,p,us,rfl,hp,hr⟩:=hv
 refine ⟨⟨us,.of (x1.2.1 _ _ hp)⟩,k1.ok x1.2.1 _ ⟨fun i H x hH hx=>?_,fun H hH=>?_⟩⟩
 ·rw [ziv_] at hx
  rcases hr.get i with ⟨a,_⟩ | ⟨y,u,a,b,c⟩
  ·rw [a] at hx; cases hx
  ·rw [a] at hx; cases hx
   refine ⟨⟨us,u,.of (hH _ _ hp),b⟩,?_⟩
   rintro v H' ⟨p2,w,z,hp2,rfl,rfl⟩ F hF hF'
   have e:=z us (.of (hH _ _ hp))
   rw [b] at e; cases e
   have x:=Ext.new (o:=.tup [.int i,u]) hF' hp2
   exact ⟨_,x,p2,_,rfl,zaY_,_,_,rfl,rfl,u,rfl,T.mono (hF.trans x.1) c⟩
 ·exact ⟨us,.of (hH _ _ hp),by rw [zgb_,hr.len]; exact Nat.le_refl _⟩
theorem zqq_ {T2:Ty β}{r:Mo (List α×List β)}{ta:TA}(h:EvA K ta E L r (csCons (tyL T) (csLast (tyL T2)))):EvI K (iZip K ta) E L (r.bind fun c=>.ok (c.1.zip c.2)) (tyTup (csCons T (csLast T2))):=by
 intro σ F H R hL hs q
 refine h σ F H _ hL hs (q.bind.imp fun l F1 H1 x1 k1 vs hv=>?_)
 obtain ⟨v,ws,rfl,⟨p,us,rfl,hp,hr⟩,v2,rfl,p2,us2,rfl,hp2,hr2⟩:=hv
 refine ⟨⟨us,.of (x1.2.1 _ _ hp)⟩,⟨us2,.of (x1.2.1 _ _ hp2)⟩,k1.ok x1.2.1 _ ⟨fun i H x hH hx=>?_,fun H hH=>?_⟩⟩
 ·obtain ⟨hx1,hx2⟩:=List.getElem?_zip_eq_some.mp (show (l.1.zip l.2)[i]?=some (x.1,x.2) from hx)
  rcases hr.get i with ⟨a,_⟩ | ⟨y,u,a,b,c⟩
  ·rw [a] at hx1; cases hx1
  rcases hr2.get i with ⟨a',_⟩ | ⟨y',u',a',b',c'⟩
  ·rw [a'] at hx2; cases hx2
  rw [a] at hx1; rw [a'] at hx2
  injection hx1 with hx1
  injection hx2 with hx2
  refine ⟨⟨us,us2,u,u',.of (hH _ _ hp),.of (hH _ _ hp2),b,b'⟩,?_⟩
  rintro v H' ⟨p3,w,w',z,z',hp3,rfl,rfl⟩ F hF hF'
  have e:=z us (.of (hH _ _ hp))
  have e':=z' us2 (.of (hH _ _ hp2))
  rw [b] at e; cases e
  rw [b'] at e'; cases e'
  have x':=Ext.new (o:=.tup [u,u']) hF' hp3
  refine ⟨_,x',p3,_,rfl,zaY_,_,_,rfl,?_,u',rfl,?_⟩
  ·rw [← hx1]; exact T.mono (hF.trans x'.1) c
  ·rw [← hx2]; exact T2.mono (hF.trans x'.1) c'
 ·refine ⟨us,us2,.of (hH _ _ hp),.of (hH _ _ hp2),?_⟩
  rw [List.length_zip,hr.len,hr2.len]
  omega
noncomputable def compM (f:α→Mo (Option β)):List α→List β→Mo (List β)
 | [],acc=>.ok acc
 | x::xs,acc=>(f x).bind fun o=>match o with | none=>compM f xs acc | some y=>.lim (acc.length+1) (compM f xs (acc++[y]))
theorem zbB_ {f:α→Mo (Option β)}{g:α→β}:∀ {xs:List α}{acc:List β},(∀ x∈xs,f x=.ok (some (g x)))→acc.length+xs.length≤100000→compM f xs acc=.ok (acc++xs.map g)
 | [],acc,_,_=>by unfold compM; rw [List.map_nil,List.append_nil]
 | x::xs,acc,h,hl=>by
  rw [List.length_cons] at hl
  unfold compM
  rw [h x List.mem_cons_self,Mo.ok_bind]
  show Mo.lim _ _=_
  rw [Mo.lim_ok (by omega),zbB_ (fun y hy=>h y (List.mem_cons_of_mem _ hy)) (by rw [List.length_append,List.length_singleton]; omega)]
  simp
noncomputable def cL (lv:List Str) (fr:List (Str×Nat)) (L:List Sl):List Sl:=lv.map (fun _=>Sl.dead)++fr.map fun q=>(L[q.2]?).getD .dead
theorem zgX_ {lv:List Str}{fr:List (Str×Nat)}{σ:St}(h:HoldF L σ F):HoldF (cL lv fr L) (cS lv fr σ) F:=by
 intro i s e
 unfold cL at e
 unfold cS
 by_cases hi:i<lv.length
 ·rw [List.getElem?_append_left (by rw [List.length_map]; exact hi),List.getElem?_map,List.getElem?_eq_getElem hi] at e
  cases e; trivial
 ·rw [List.getElem?_append_right (by rw [List.length_map]; omega),List.length_map,List.getElem?_map] at e
  rw [List.getElem?_append_right (by rw [List.length_map]; omega),List.length_map,List.getElem?_map]
  cases z:fr[i-lv.length]? with
  | none=>rw [z] at e; cases e
  | some q =>
   rw [z] at e
   have e:(L[q.2]?).getD .dead=s:=by simpa using e
   show Sl.Z s (σ[q.2]?).join F
   cases y:L[q.2]? with
   | none=>rw [y] at e; rw [← e]; trivial
   | some t=>rw [y] at e; cases e; exact h _ _ y
theorem zjL_ {lv:List Str}{fr:List (Str×Nat)}{σ:St}:(cL lv fr L).length=(cS lv fr σ).length:=by unfold cL cS; simp
noncomputable def cond1 (c:Mo Bool) (f:Mo β):Mo (Option β):=(c.bind fun b=>if b then f.bind fun y=>.ok (some y) else .ok none).noex
theorem zd4_ {lv:List Str}{fr:List (Str×Nat)}{wi:TI}{g:TG}{tt:TT}{te:TE}{r:Mo (List α)}{ss:α→List (Nat×Sl)}{c:α→Mo Bool}{f:α→Mo β}{T':Ty β}
  (hi:EvI K wi E L r T) (hg:TgR K g T ss) (hd:∀ a,DeadAt (cL lv fr L) ((ss a).map (·.1))) (ht:∀ a,EvT K tt E0 (setL (cL lv fr L) (ss a)) (c a)) (he:∀ a,EvF K te E0 (setL (cL lv fr L) (ss a)) (f a) T') :
  EvO K (tComp lv fr wi g tt te) E L (r.bind fun xs=>compM (fun x=>cond1 (c x) (f x)) xs []) (owL T'):=by
 intro σ F0 H0 Q hL hs q
 refine hi σ F0 H0 _ hL hs (q.bind.imp fun xs F1 H1 x1 k1 J Y D hD=>?_)
 have hL1:=hL.mono x1.1
 refine ⟨fun i m ys σ' H'=>m=xs.length-i∧i≤xs.length∧∃ acc Fi,Ext F1 H1 Fi H'∧Fi D=none∧H' D=some (.lst ys)∧Prs T' Fi acc ys∧HoldF (cL lv fr L) σ' F1∧σ'.length=(cL lv fr L).length∧After K (compM (fun x=>cond1 (c x) (f x)) (xs.drop i) acc) E F1 H1 (OwnK (owL T') H0 Q),
  ⟨_,rfl,Nat.zero_le _,[],F1,.heap x1.2.1 (zep_ hD _),x1.2.1.free hD,zaY_,.nil,zgX_ hL1,zjL_.symm,k1⟩,?_⟩
 rintro i m ys σ' H' ⟨rfl,hi,acc,Fi,xi,hDi,hy,hp,hσ,hln,A⟩
 by_cases hlt:i<xs.length
 ·right
  have ex:xs[i]?=some xs[i]:=List.getElem?_eq_getElem hlt
  obtain ⟨g1,g2⟩:=Y.go i H' xs[i] (xi.1.trans xi.2.1) ex
  refine ⟨g1,fun ys' σ'' H''=>i+1≤xs.length∧∃ acc Fi,Ext F1 H1 Fi H''∧Fi D=none∧H'' D=some (.lst ys')∧Prs T' Fi acc ys'∧HoldF (cL lv fr L) σ'' F1∧σ''.length=(cL lv fr L).length∧After K (compM (fun x=>cond1 (c x) (f x)) (xs.drop (i+1)) acc) E F1 H1 (OwnK (owL T') H0 Q),fun ys' σ'' H'' z=>⟨xs.length-(i+1),by omega,rfl,z⟩,fun v H2 hyl=>?_⟩
  obtain ⟨F2,x2,hv⟩:=g2 v H2 hyl Fi xi.1 xi.2.1
  have keep:∀ {Fa Ha Fb Hb:Hp},Ext Fa Ha Fb Hb→Fa D=none→Ha D=some (.lst ys)→Fb D=none∧Hb D=some (.lst ys):=by
   intro Fa Ha Fb Hb x h1 h2
   refine ⟨?_,x.2.2.1 _ _ h2⟩
   cases z:Fb D with
   | none=>rfl
   | some o=>have:=x.2.2.2 D h1 (by rw [z]; exact Option.some_ne_none _); rw [h2] at this; cases this
  obtain ⟨hD2,hy2⟩:=keep x2 hDi hy
  refine hg xs[i] v σ' F2 H2 _ x2.2.1 hv fun vs hpl=>?_
  have hσ2:HoldF (cL lv fr L) σ' F2:=hσ.mono (xi.1.trans x2.1)
  obtain ⟨a1,a2,a3⟩:=zfP_ hpl hln.symm hσ2
  have hσd:HoldF (cL lv fr L) (setS σ' vs) F1:=by
   have hdead:=hd xs[i]
   refine fun j s e=>?_
   have h1:=zj4_ hpl hln.symm hdead hσ2
   by_cases hj:∃ q∈(ss xs[i]).map (·.1),q=j
   ·obtain ⟨q,hq,rfl⟩:=hj
    rw [hdead q hq s e]; trivial
   ·have:((setS σ' vs)[j]?)=σ'[j]?:=by
     exact zkk_ hpl (fun hq=>hj ⟨j,hq,rfl⟩)
    rw [this]; exact hσ j s e
  have hdrop:xs.drop i=xs[i]::xs.drop (i+1):=List.drop_eq_getElem_cons hlt
  rw [hdrop] at A
  unfold compM at A
  cases ec:c xs[i] with
  | no=>unfold cond1 at A; rw [ec] at A; exact A.elim
  | ex cc=>unfold cond1 at A; rw [ec] at A; exact A.elim
  | ok bb =>
   refine ht xs[i] _ F2 H2 _ a1 x2.2.1 ?_
   rw [ec]
   intro F3 H3 x3
   obtain ⟨hD3,hy3⟩:=keep x3 hD2 hy2
   have x13:=(xi.trans x2).trans x3
   cases bb with
   | false =>
    rw [if_neg (by decide)]
    refine ⟨hlt,acc,F3,x13,hD3,hy3,hp.mono (x2.1.trans x3.1),hσd,by rw [a2]; exact hln,?_⟩
    unfold cond1 at A; rw [ec] at A
    exact A
   | true =>
    rw [if_pos rfl]
    cases ef:f xs[i] with
    | no=>unfold cond1 at A; rw [ec,ef] at A; exact A.elim
    | ex cc=>unfold cond1 at A; rw [ec,ef] at A; exact A.elim
    | ok y =>
     unfold cond1 at A; rw [ec,ef] at A
     have A':After K (Mo.lim (acc.length+1) (compM (fun x=>cond1 (c x) (f x)) (xs.drop (i+1)) (acc++[y]))) E F1 H1 (OwnK (owL T') H0 Q):=A
     obtain ⟨hz,A'⟩:=A'.lim
     refine he xs[i] _ F3 H3 _ (a1.mono x3.1) x3.2.1 ?_
     rw [ef]
     intro F4 H4 x4 v4 hv4
     obtain ⟨hD4,hy4⟩:=keep x4 hD3 hy3
     have hlen:=hp.len
     refine ⟨hy4,by omega,hlt,acc++[y],F4,?_,hD4,zaY_,(hp.mono ((x2.1.trans x3.1).trans x4.1)).append (.cons hv4 .nil),hσd,by rw [a2]; exact hln,A'⟩
     have x14:=x13.trans x4
     refine ⟨x14.1,fun b o z=>?_,fun b o z=>?_,x14.2.2.2⟩
     ·unfold upd; split
      ·rename_i w; rw [w,hD4] at z; cases z
      ·exact x14.2.1 _ _ z
     ·unfold upd; split
      ·rename_i w; rw [w,hD] at z; cases z
      ·exact x14.2.2.1 _ _ z
 ·left
  have e:i=xs.length:=by omega
  subst e
  refine ⟨Y.stop H' (xi.1.trans xi.2.1),?_⟩
  rw [List.drop_length] at A
  have A':OwnK (owL T') H0 Q acc Fi H':=A Fi H' xi
  exact zmm_ (x1.2.2.1.free hD) hy hDi hp A'
end
end L2
namespace L2
open PySem PySem.Spec PyProof.Rows
inductive Out (ρ B S:Type) where
 | nx (s:S) | rt (r:ρ) | bk (b:B) | ct (b:B)
noncomputable def Okk (F0 H0 F h H:Hp):Prop:=Ext F0 H0 F H∧Dj F h∧Same h H∧(∀ p,h p≠none→H0 p=none)∧∀ p xs,h p≠some (.tup xs)
section
variable {K:PySem.W.Frag}{E:XK}{α β γ ρ S S' B B':Type}{F0 H0 F h H:Hp}{L:List Sl}{e e1 e2:TE}{T:Ty α}{r:Mo α}{O:Own ρ}
noncomputable def Fin (K:PySem.W.Frag) (r:Mo (Out ρ B S)) (E:XK) (LS:S→List Sl) (LB:B→List Sl) (O:Own ρ) (F0 H0:Hp) (D:Ends):Prop:=match r with
 | .ok (.nx s)=>∀ σ F h H,Hold (LS s) σ F h→Okk F0 H0 F h H→D.nx σ H
 | .ok (.bk b)=>∀ σ F h H,Hold (LB b) σ F h→Okk F0 H0 F h H→D.bk σ H
 | .ok (.ct b)=>∀ σ F h H,Hold (LB b) σ F h→Okk F0 H0 F h H→D.ct σ H
 | .ok (.rt a)=>∀ v F h H,Okk F0 H0 F h H→O.O a v F h→D.rt v H
 | .ex c=>∀ F h H,Okk F0 H0 F h H→E (.ref (gA K c)) none H
 | .no=>False
noncomputable def EvS (K:PySem.W.Frag) (t:TS) (E:XK) (L:List Sl) (r:Mo (Out ρ B S)) (LS:S→List Sl) (LB:B→List Sl) (O:Own ρ):Prop :=
 ∀ F0 H0 σ F h H (D:Ends),Hold L σ F h→Okk F0 H0 F h H→Fin K r E LS LB O F0 H0 D→t D σ H
variable {t u:TS}{LS:S→List Sl}{LS':S'→List Sl}{LB:B→List Sl}
noncomputable def thenO (r:Mo (Out ρ B S)) (k:S→Mo (Out ρ B S')):Mo (Out ρ B S'):=r.bind fun o=>match o with | .nx s=>k s | .rt a=>.ok (.rt a) | .bk b=>.ok (.bk b) | .ct b=>.ok (.ct b)
theorem zeg_ {r:Mo (Out ρ B S)}{k:S→Mo (Out ρ B S')}(h1:EvS K t E L r LS LB O) (h2:∀ s,EvS K u E (LS s) (k s) LS' LB O):EvS K (tSeq t u) E L (thenO r k) LS' LB O:=by
 intro F0 H0 σ F h H D hL ok fin
 refine h1 F0 H0 σ F h H { D with nx:=u D } hL ok ?_
 cases r with
 | no=>exact fin
 | ex c=>exact fin
 | ok o =>
  cases o with
  | nx s=>exact fun σ F h H hL ok=>h2 s F0 H0 σ F h H D hL ok fin
  | rt a=>exact fin
  | bk b=>exact fin
  | ct b=>exact fin
theorem Okk.thaw (ok:Okk F0 H0 F h H):Same (un F h) H:=fun p o e=>by
 unfold un at e
 cases z:F p with
 | some w=>rw [z] at e; cases e; exact ok.1.2.1 _ _ z
 | none=>rw [z] at e; exact ok.2.2.1 _ _ e
noncomputable def less (G h:Hp):Hp:=fun p=>match h p with | none=>G p | some _=>none
theorem zS_ {G h:Hp}{p:Addr}(e:h p=none):less G h p=G p:=by unfold less; rw [e]
theorem Okk.back (ok:Okk F0 H0 F h H) {G' H':Hp}(x:Ext (un F h) H G' H'):Okk F0 H0 (less G' h) h H'∧Same F (less G' h)∧Tups G' (less G' h):=by
 obtain ⟨o1,o2,o3,o4,o5⟩:=ok
 have hs:Same F (less G' h):=fun p o e=>by
  have hp:h p=none:=by
   rcases o2 p with z | z
   ·rw [z] at e; cases e
   ·exact z
  rw [zS_ hp]; exact x.1 _ _ (zbq_ _ _ e)
 refine ⟨⟨⟨o1.1.trans hs,fun p o e=>?_,o1.2.2.1.trans x.2.2.1,fun p a b=>?_⟩,fun p=>?_,fun p o e=>?_,o4,o5⟩,hs,fun p xs e=>?_⟩
 ·unfold less at e
  split at e
  ·exact x.2.1 _ _ e
  ·cases e
 ·unfold less at b
  split at b
  ·rename_i z
   cases y:un F h p with
   | none=>exact o1.2.2.1.free (x.2.2.2 p y b)
   | some o =>
    unfold un at y
    cases w:F p with
    | some _=>exact o1.2.2.2 p a (by rw [w]; exact Option.some_ne_none _)
    | none=>rw [w,z] at y; cases y
  ·exact absurd rfl b
 ·unfold less
  cases z:h p with
  | none=>exact .inr rfl
  | some o=>exact .inl rfl
 ·exact x.2.1 _ _ (x.1 _ _ (zhv_ o2 _ _ e))
 ·unfold less
  cases z:h p with
  | none=>exact e
  | some o =>
   have:=x.1 _ _ (zhv_ o2 _ _ z)
   rw [e] at this; cases this
   exact absurd z (o5 p xs)
theorem zby_ {r:Mo α}{k:α→Mo (Out ρ B S)}{G:Hp}{D:Ends}{kk:α→Hp→Hp→Prop}(ok:Okk F0 H0 F h H) (G1:Hp) (hG:G1=un F h∨G1=F) (fin:Fin K (r.bind k) E LS LB O F0 H0 D)
  (hk:∀ a F' H',r=.ok a→Ext G1 H F' H'→kk a F' H'):After K r E G1 H kk:=by
 cases r with
 | ok a=>exact fun F' H' x=>hk a F' H' rfl x
 | no=>exact fin
 | ex c =>
  intro F' H' x
  rcases hG with rfl | rfl
  ·exact fin _ _ _ (ok.back x).1
  ·refine fin F' h H' ⟨ok.1.trans x,fun p=>?_,ok.2.2.1.trans x.2.2.1,ok.2.2.2.1,ok.2.2.2.2⟩
   cases z:h p with
   | none=>exact .inr rfl
   | some o =>
    left
    rcases ok.2.1 p with y | y
    ·cases w:F' p with
     | none=>rfl
     | some o'=>have:=x.2.2.2 p y (by rw [w]; exact Option.some_ne_none _); rw [ok.2.2.1 _ _ z] at this; cases this
    ·rw [y] at z; cases z
theorem Okk.cold (ok:Okk F0 H0 F h H) {F' H':Hp}(x:Ext F H F' H'):Okk F0 H0 F' h H':=by
 refine ⟨ok.1.trans x,fun p=>?_,ok.2.2.1.trans x.2.2.1,ok.2.2.2.1,ok.2.2.2.2⟩
 cases z:h p with
 | none=>exact .inr rfl
 | some o =>
  left
  rcases ok.2.1 p with y | y
  ·cases w:F' p with
   | none=>rfl
   | some o'=>have:=x.2.2.2 p y (by rw [w]; exact Option.some_ne_none _); rw [ok.2.2.1 _ _ z] at this; cases this
  ·rw [y] at z; cases z
theorem zd6_ {i:Nat}{s:Sl}{σ:St}{a:α}{v:V}(hi:L[i]?=some s) (hL:Hold L σ F h) (hv:T.R a v F):Hold (L.set i (.fz T a)) (σ.set i (some v)) F h:=by
 obtain ⟨o,h1,h2,_,j,_,f⟩:=hL.at i hi
 exact f (.fz T a) (some v) h1 h j ⟨v,rfl,hv⟩
theorem zh7_ {i:Nat}{s:Sl}{σ:St}{a:α}{v:V}{O1:Own α}{hn:Hp}(ok:Okk F0 H0 F h H) (hi:L[i]?=some s) (hL:Hold L σ F h) (fresh:∀ p,hn p≠none→H0 p=none) (dj:Dj F hn) (dh:Dj hn h) (hs:Same hn H) (hv:O1.O a v F hn) :
  ∃ h',Hold (L.set i (.ow O1 a)) (σ.set i (some v)) F h'∧Okk F0 H0 F h' H:=by
 obtain ⟨o,h1,h2,_,j,_,f⟩:=hL.at i hi
 have d2:Dj hn h2:=fun p=>by
  rcases dh p with z | z
  ·exact .inl z
  ·exact .inr (j.r.free z)
 refine ⟨un hn h2,f (.ow O1 a) (some v) hn _ (zdN_ d2) ⟨v,rfl,hv⟩,ok.1,fun p=>?_,fun p o e=>?_,fun p e=>?_,fun p xs e=>?_⟩
 ·unfold un
  cases z:hn p with
  | some w =>
   rcases dj p with y | y
   ·exact .inl y
   ·rw [y] at z; cases z
  | none =>
   rcases ok.2.1 p with y | y
   ·exact .inl y
   ·exact .inr (j.r.free y)
 ·unfold un at e
  cases z:hn p with
  | some w=>rw [z] at e; cases e; exact hs _ _ z
  | none=>rw [z] at e; exact ok.2.2.1 _ _ (j.r _ _ e)
 ·unfold un at e
  cases z:hn p with
  | some w=>exact fresh p (by rw [z]; exact Option.some_ne_none _)
  | none =>
   rw [z] at e
   cases y:h2 p with
   | none=>exact absurd y e
   | some w=>exact ok.2.2.2.1 p (by rw [j.r _ _ y]; exact Option.some_ne_none _)
 ·unfold un at e
  cases z:hn p with
  | some w=>rw [z] at e; cases e; exact O1.notup hv p xs z
  | none=>rw [z] at e; exact ok.2.2.2.2 p xs (j.r _ _ e)
theorem zdO_ {i:Nat}{s:Sl}{k:α→Mo (Out ρ B S)}(hi:L[i]?=some s) (hT:Imm T) (he:EvF K e E L r T) (hk:∀ a,EvS K u E (L.set i (.fz T a)) (k a) LS LB O):EvS K (tSeq (tAsg e (gName i)) u) E L (r.bind k) LS LB O:=by
 intro F0 H0 σ F h H D hL ok fin
 refine he σ (un F h) H _ (hL.froz ok.2.1) ok.thaw (zby_ (G:=F) ok _ (.inl rfl) fin fun a F' H' hr x v hv=>?_)
 obtain ⟨o,hs,ht⟩:=ok.back x
 rw [hr] at fin
 exact hk a F0 H0 _ _ h H' D (zd6_ hi (hL.mono hs) (hT ht hv)) o fin
theorem zon_ {hn h:Hp}(hh:Same h H) (fresh:∀ p,hn p≠none→H p=none):Dj hn h:=fun p=>by
 cases z:hn p with
 | none=>exact .inl rfl
 | some w =>
  have:=fresh p (by rw [z]; exact Option.some_ne_none _)
  exact .inr (hh.free this)
theorem zcV_ {i:Nat}{s:Sl}{O1:Own α}{k:α→Mo (Out ρ B S)}(hi:L[i]?=some s) (hO:ImmO O1) (he:EvO K e E L r O1) (hk:∀ a,EvS K u E (L.set i (.ow O1 a)) (k a) LS LB O):EvS K (tSeq (tAsg e (gName i)) u) E L (r.bind k) LS LB O:=by
 intro F0 H0 σ F h H D hL ok fin
 refine he σ (un F h) H _ (hL.froz ok.2.1) ok.thaw (zby_ (G:=F) ok _ (.inl rfl) fin fun a F' H' hr x v hn fresh dj hsn hv=>?_)
 obtain ⟨o,hs,ht⟩:=ok.back x
 rw [hr] at fin
 have dj':Dj (less F' h) hn:=fun p=>by
  unfold less
  cases z:h p with
  | none=>exact dj p
  | some w=>exact .inl rfl
 obtain ⟨h',a1,a2⟩:=zh7_ o hi (hL.mono hs) (fun p z=>ok.1.2.2.1.free (fresh p z)) dj' (zon_ ok.2.2.1 fresh) hsn (hO ht hv)
 exact hk a F0 H0 _ _ h' H' D a1 a2 fin
theorem zmh_ {i:Nat}{s:Sl}{O1:Own α}{k:α→Mo (Out ρ B S)}(hi:L[i]?=some s) (he:EvO K e E (L.map Sl.cold) r O1) (hk:∀ a,EvS K u E (L.set i (.ow O1 a)) (k a) LS LB O):EvS K (tSeq (tAsg e (gName i)) u) E L (r.bind k) LS LB O:=by
 intro F0 H0 σ F h H D hL ok fin
 refine he σ F H _ hL.coldF ok.1.2.1 (zby_ (G:=F) ok _ (.inr rfl) fin fun a F' H' hr x v hn fresh dj hsn hv=>?_)
 rw [hr] at fin
 obtain ⟨h',a1,a2⟩:=zh7_ (ok.cold x) hi (hL.mono x.1) (fun p z=>ok.1.2.2.1.free (fresh p z)) dj (zon_ ok.2.2.1 fresh) hsn hv
 exact hk a F0 H0 _ _ h' H' D a1 a2 fin
theorem zb2_ {α:Type}{l:List α}{i:Nat}{o:α}(h:l[i]?=some o):l.set i o=l:=by
 obtain ⟨hi,e⟩:=List.getElem?_eq_some_iff.mp h
 rw [← e]; exact List.set_getElem_self hi
theorem zlq_ {i:Nat}{O1:Own α}{a:α}{r:Mo (Out ρ B S)}(hi:L[i]?=some (.ow O1 a)) (hk:EvS K u E (L.set i (.fz O1.fr a)) r LS LB O):EvS K u E L r LS LB O:=by
 intro F0 H0 σ F h H D hL ok fin
 obtain ⟨o,h1,h2,e1,j,⟨v,e2,hv⟩,f⟩:=hL.at i hi
 obtain ⟨o1,o2,o3,o4,o5⟩:=ok
 have dj1:Dj F h1:=fun p=>by
  rcases o2 p with z | z
  ·exact .inl z
  ·exact .inr (j.l.free z)
 have dj2:Dj F h2:=fun p=>by
  rcases o2 p with z | z
  ·exact .inl z
  ·exact .inr (j.r.free z)
 have g1:Hold (L.set i (.dead)) σ F h2:=by
  have:=f .dead o (fun _=>none) h2 (fun p=>.inl ⟨rfl,rfl⟩) trivial
  rwa [zb2_ e1] at this
 have g2:Hold (L.set i (.fz O1.fr a)) σ (un F h1) h2:=by
  have g3:=g1.mono (zbq_ (h:=h1))
  have hi':(L.set i Sl.dead)[i]?=some .dead:=by
   rw [List.getElem?_set_self]
   exact (List.getElem?_eq_some_iff.mp hi).1
  have:=zd6_ (T:=O1.fr) hi' g3 (O1.frz dj1 hv)
  rw [List.set_set] at this
  subst e2
  rwa [zb2_ e1] at this
 refine hk F0 H0 σ _ h2 H D g2 ⟨⟨o1.1.trans zbq_,fun p o e=>?_,o1.2.2.1,fun p a b=>?_⟩,fun p=>?_,j.r.trans o3,fun p z=>?_,fun p xs e=>o5 p xs (j.r _ _ e)⟩ fin
 ·unfold un at e
  cases z:F p with
  | some w=>rw [z] at e; cases e; exact o1.2.1 _ _ z
  | none=>rw [z] at e; exact o3 _ _ (j.l _ _ e)
 ·unfold un at b
  cases z:F p with
  | some w=>exact o1.2.2.2 p a (by rw [z]; exact Option.some_ne_none _)
  | none =>
   rw [z] at b
   cases y:h1 p with
   | none=>exact absurd y b
   | some w=>exact o4 p (by rw [j.l _ _ y]; exact Option.some_ne_none _)
 ·unfold un
  cases z:F p with
  | some w =>
   rcases dj2 p with y | y
   ·rw [y] at z; cases z
   ·exact .inr y
  | none=>exact j.dj p
 ·cases y:h2 p with
  | none=>exact absurd y z
  | some w=>exact o4 p (by rw [j.r _ _ y]; exact Option.some_ne_none _)
theorem zef_ {r:Mo ρ}(hO:ImmO O) (he:EvO K e E L r O):EvS K (tRet e) E L (r.bind fun a=>.ok (.rt a)) LS LB O:=by
 intro F0 H0 σ F h H D hL ok fin
 refine he σ (un F h) H _ (hL.froz ok.2.1) ok.thaw (zby_ (G:=F) ok _ (.inl rfl) fin fun a F' H' hr x v hn fresh dj hsn hv=>?_)
 obtain ⟨o,hs,ht⟩:=ok.back x
 rw [hr] at fin
 refine fin v _ hn H' ⟨o.1,fun p=>?_,hsn,fun p z=>ok.1.2.2.1.free (fresh p z),O.notup hv⟩ (hO ht hv)
 unfold less
 cases z:h p with
 | none=>exact dj p
 | some w=>exact .inl rfl
theorem znR_ {i:Nat}{a:ρ}(hi:L[i]?=some (.ow O a)):EvS K (tRet (mVar i)) E L (.ok (.rt a)) LS LB O:=by
 intro F0 H0 σ F h H D hL ok fin
 obtain ⟨o,h1,h2,e1,j,⟨v,e2,hv⟩,f⟩:=hL.at i hi
 subst e2
 show mVar i σ H D.rt
 unfold mVar
 rw [e1]
 obtain ⟨o1,o2,o3,o4,o5⟩:=ok
 refine fin v F h1 H ⟨o1,fun p=>?_,j.l.trans o3,fun p z=>?_,O.notup hv⟩ hv
 ·rcases o2 p with z | z
  ·exact .inl z
  ·exact .inr (j.l.free z)
 ·cases y:h1 p with
  | none=>exact absurd y z
  | some w=>exact o4 p (by rw [j.l _ _ y]; exact Option.some_ne_none _)
theorem s_if {c:TT}{b:Mo Bool}{r1 r2:Mo (Out ρ B S)}(hc:EvT K c E L b) (h1:EvS K t E L r1 LS LB O) (h2:EvS K u E L r2 LS LB O):EvS K (mIfS c t u) E L (b.bind fun c=>if c then r1 else r2) LS LB O:=by
 intro F0 H0 σ F h H D hL ok fin
 refine hc σ (un F h) H _ (hL.froz ok.2.1) ok.thaw (zby_ (G:=F) ok _ (.inl rfl) fin fun a F' H' hr x=>?_)
 obtain ⟨o,hs,ht⟩:=ok.back x
 rw [hr] at fin
 have fin':Fin K (if a then r1 else r2) E LS LB O F0 H0 D:=fin
 refine ⟨fun z=>?_,fun z=>?_⟩
 ·rw [if_pos z] at fin'; exact h1 F0 H0 σ _ h H' D (hL.mono hs) o fin'
 ·rw [if_neg (by rw [z]; decide)] at fin'; exact h2 F0 H0 σ _ h H' D (hL.mono hs) o fin'
inductive Sub:List Sl→List Sl→Prop
 | nil:Sub [] []
 | same {s:Sl}{L L':List Sl}(h:Sub L L'):Sub (s::L) (s::L')
 | dead {s:Sl}{L L':List Sl}(h:Sub L L'):Sub (s::L) (.dead::L')
theorem Sub.hold {L L':List Sl}(w:Sub L L'):∀ {σ:St}{F h:Hp},Hold L σ F h→Hold L' σ F h:=by
 induction w with
 | nil=>exact fun h=>h
 | same _ ih =>
  intro σ F h q
  cases σ with
  | nil=>exact q.elim
  | cons o σ=>obtain ⟨h1,h2,j,p,r⟩:=q; exact ⟨h1,h2,j,p,ih r⟩
 | dead _ ih =>
  intro σ F h q
  cases σ with
  | nil=>exact q.elim
  | cons o σ=>obtain ⟨h1,h2,j,p,r⟩:=q; exact ⟨h1,h2,j,trivial,ih r⟩
theorem zU_ {s:S}(w:Sub L (LS s)):EvS K tNext E L (.ok (.nx s)) LS LB O:=fun F0 H0 σ F h H D hL ok fin=>fin σ F h H (w.hold hL) ok
theorem zeB_ {r:Mo (Out ρ B S)}(h:EvS K (tSeq t tNext) E L r LS LB O):EvS K t E L r LS LB O:=h
noncomputable def forO (step:S→α→Mo (Out ρ S S)):List α→S→Mo (Out ρ B S)
 | [],s=>.ok (.nx s)
 | x::xs,s=>(step s x).bind fun o=>match o with | .nx s'=>forO step xs s' | .ct s'=>forO step xs s' | .bk s'=>.ok (.nx s') | .rt a=>.ok (.rt a)
theorem zgD_ {ss:List (Nat×Sl)}{vs:List (Nat×Option V)}(p:Plain F ss vs):∀ {L:List Sl}{σ:St},Hold L σ F h→Hold (setL L ss) (setS σ vs) F h:=by
 induction p with
 | nil=>exact fun h=>h
 | cons hv t ih =>
  rename_i T a i v ss vs
  intro L σ q
  refine ih (L:=L.set i (.fz T a)) (σ:=σ.set i (some v)) ?_
  by_cases hi:i<L.length
  ·exact zd6_ (List.getElem?_eq_getElem hi) q hv
  ·rw [List.set_eq_of_length_le (by omega),List.set_eq_of_length_le (by have:=q.len; omega)]; exact q
theorem Okk.rebase {F1 H1:Hp}(x:Ext F0 H0 F1 H1) (ok:Okk F0 H0 F h H) (s:Same F1 F):Okk F1 H0 F h H:=by
 obtain ⟨o1,o2,o3,o4,o5⟩:=ok
 refine ⟨⟨s,o1.2.1,o1.2.2.1,fun p a b=>o1.2.2.2 p (x.1.free a) b⟩,o2,o3,o4,o5⟩
theorem Okk.unbase {F1 H1:Hp}(x:Ext F0 H0 F1 H1) (ok:Okk F1 H0 F h H):Okk F0 H0 F h H:=by
 obtain ⟨o1,o2,o3,o4,o5⟩:=ok
 refine ⟨⟨x.1.trans o1.1,o1.2.1,o1.2.2.1,fun p a b=>?_⟩,o2,o3,o4,o5⟩
 cases z:F1 p with
 | none=>exact o1.2.2.2 p z b
 | some w=>exact x.2.2.2 p a (by rw [z]; exact Option.some_ne_none _)
theorem zhw_ {wi:TI}{g:TG}{tb:TS}{s0:S}{r:Mo (List α)}{ss:α→List (Nat×Sl)}{step:S→α→Mo (Out ρ S S)}(hi:EvI K wi E ((LS s0).map Sl.cold) r T) (hg:TgR K g T ss)
  (hb:∀ s a,EvS K tb E (setL (LS s) (ss a)) (step s a) LS LS O):EvS K (tFor wi g tb) E (LS s0) (r.bind fun xs=>forO step xs s0) LS LB O:=by
 intro F0 H0 σ F h H D hL ok fin
 refine hi σ F H _ hL.coldF ok.1.2.1 (zby_ (G:=F) ok _ (.inr rfl) fin fun xs F1 H1 hr x1 J Y=>?_)
 rw [hr] at fin
 have xx:=ok.1.trans x1
 refine ⟨fun i m σ H=>m=xs.length-i∧i≤xs.length∧∃ s F h,Hold (LS s) σ F h∧Okk F1 H0 F h H∧Fin K (forO (B:=B) step (xs.drop i) s) E LS LB O F0 H0 D,
  ⟨_,rfl,Nat.zero_le _,s0,F1,h,hL.mono x1.1,(ok.cold x1).rebase xx (Same.refl _),fin⟩,?_⟩
 rintro i m σ H ⟨rfl,hi,s,F,h,hL,ok,fin⟩
 have s1:Same F1 H:=ok.1.1.trans ok.1.2.1
 by_cases hlt:i<xs.length
 ·right
  obtain ⟨g1,g2⟩:=Y.go i H xs[i] s1 (List.getElem?_eq_getElem hlt)
  refine ⟨g1,fun σ' H'=>i+1≤xs.length∧∃ s F h,Hold (LS s) σ' F h∧Okk F1 H0 F h H'∧Fin K (forO (B:=B) step (xs.drop (i+1)) s) E LS LB O F0 H0 D,fun σ' H' z=>⟨xs.length-(i+1),by omega,rfl,z⟩,fun v H2 hy=>?_⟩
  obtain ⟨F2,x2,hv⟩:=g2 v H2 hy F ok.1.1 ok.1.2.1
  refine hg xs[i] v σ F2 H2 _ x2.2.1 hv fun vs hp=>?_
  refine hb s xs[i] F1 H0 _ F2 h H2 _ (zgD_ hp (hL.mono x2.1)) (ok.cold x2) ?_
  rw [List.drop_eq_getElem_cons hlt] at fin
  unfold forO at fin
  cases e:step s xs[i] with
  | no=>rw [e] at fin; exact fin
  | ex c=>rw [e] at fin; exact fun F h H ok=>fin F h H (ok.unbase xx)
  | ok o =>
   rw [e] at fin
   cases o with
   | nx s'=>exact fun σ' F' h' H' hL' ok'=>⟨hlt,s',F',h',hL',ok',fin⟩
   | ct s'=>exact fun σ' F' h' H' hL' ok'=>⟨hlt,s',F',h',hL',ok',fin⟩
   | bk s'=>exact fun σ' F' h' H' hL' ok'=>fin σ' F' h' H' hL' (ok'.unbase xx)
   | rt a=>exact fun v F h H ok=>fin v F h H (ok.unbase xx)
 ·left
  have e:i=xs.length:=by omega
  subst e
  rw [List.drop_length] at fin
  exact ⟨Y.stop H s1,fin σ F h H hL (ok.unbase xx)⟩
theorem zbL_ {i:Nat}{σ:St}{xs:List α}(hL:Hold L σ F h) (hi:L[i]?=some (.ow (owL T) xs)) (ok:Okk F0 H0 F h H) :
  ∃ p vs,σ[i]?=some (some (.ref p))∧H p=some (.lst vs)∧Prs T F xs vs∧∀ xs' vs',Prs T F xs' vs'→∃ h',Hold (L.set i (.ow (owL T) xs')) σ F h'∧Okk F0 H0 F h' (upd H p (.lst vs')):=by
 obtain ⟨o,h1,h2,e1,j,⟨v,e2,p,vs,rfl,rfl,hr⟩,f⟩:=hL.at i hi
 subst e2
 obtain ⟨o1,o2,o3,o4,o5⟩:=ok
 have hp:h p=some (.lst vs):=j.l _ _ zbk_
 have h2p:h2 p=none:=by
  rcases j.dj p with z | z
  ·rw [zbk_] at z; cases z
  ·exact z
 have Fp:F p=none:=by
  rcases o2 p with z | z
  ·exact z
  ·rw [hp] at z; cases z
 have H0p:H0 p=none:=o4 p (by rw [hp]; exact Option.some_ne_none _)
 refine ⟨p,vs,e1,o3 _ _ hp,hr,fun xs' vs' hr'=>?_⟩
 have d2:Dj (one p (.lst vs')) h2:=fun q=>by
  unfold one; split
  ·rename_i z; rw [z]; exact .inr h2p
  ·exact .inl rfl
 have g:=f (.ow (owL T) xs') (some (.ref p)) (one p (.lst vs')) _ (zdN_ d2) ⟨_,rfl,p,vs',rfl,rfl,hr'⟩
 rw [zb2_ e1] at g
 refine ⟨_,g,⟨o1.1,fun q o z=>?_,fun q o z=>?_,o1.2.2.2⟩,fun q=>?_,fun q o z=>?_,fun q z=>?_,fun q ys z=>?_⟩
 ·unfold upd; split
  ·rename_i w; rw [w,Fp] at z; cases z
  ·exact o1.2.1 _ _ z
 ·unfold upd; split
  ·rename_i w; rw [w,H0p] at z; cases z
  ·exact o1.2.2.1 _ _ z
 ·by_cases w:q=p
  ·rw [w]; exact .inl Fp
  ·unfold un one; simp only [if_neg w]
   rcases o2 q with z | z
   ·exact .inl z
   ·exact .inr (j.r.free z)
 ·unfold un one at z
  unfold upd
  by_cases w:q=p
  ·rw [if_pos w]; simp only [if_pos w] at z; exact z
  ·rw [if_neg w]; simp only [if_neg w] at z; exact o3 _ _ (j.r _ _ z)
 ·unfold un one at z
  by_cases w:q=p
  ·rw [w]; exact H0p
  ·simp only [if_neg w] at z
   cases y:h2 q with
   | none=>exact absurd y z
   | some u=>exact o4 q (by rw [j.r _ _ y]; exact Option.some_ne_none _)
 ·unfold un one at z
  by_cases w:q=p
  ·simp only [if_pos w] at z; cases z
  ·simp only [if_neg w] at z; exact o5 q ys (j.r _ _ z)
theorem zcl_ {i:Nat}{σ:St}{v:V}{Q:VK}(e:σ[i]?=some (some v)) (q:Q v H):mVar i σ H Q:=by unfold mVar; rw [e]; exact q
theorem ze8_ {n:Nat}{r:Mo (Out ρ B S)}{D:Ends}(h:Fin K (Mo.lim n r) E LS LB O F0 H0 D):n≤sizeLine∧Fin K r E LS LB O F0 H0 D:=by
 unfold Mo.lim at h
 split at h
 ·exact ⟨by assumption,h⟩
 ·exact h.elim
theorem zor_ {x:Option α}{k:α→Mo (Out ρ B S)}{D:Ends}(h:Fin K ((Mo.opt x).bind k) E LS LB O F0 H0 D):∃ a,x=some a∧Fin K (k a) E LS LB O F0 H0 D:=by
 cases x with
 | none=>exact h.elim
 | some a=>exact ⟨a,rfl,h⟩
theorem zhk_ {i:Nat}{xs:List α}{k:α→Mo (Out ρ B S)}(hi:L[i]?=some (.ow (owL T) xs)) (hT:Imm T) (he:EvF K e E L r T) (hk:∀ a,EvS K u E (L.set i (.ow (owL T) (xs++[a]))) (k a) LS LB O) :
  EvS K (tSeq (tDrop (tBM K "list" rAppend (mVar i) (tCons e tNil))) u) E L (r.bind fun a=>.lim (xs.length+1) (k a)) LS LB O:=by
 intro F0 H0 σ F h H D hL ok fin
 obtain ⟨p,vs,e1,hp,hr,_⟩:=zbL_ hL hi ok
 show mVar i σ H fun x H1=>tyV K "list" x H1∧tCons e tNil σ H1 fun xs H2=>rAppend x xs H2 (fun _ H3=>u D σ H3)
 refine zcl_ e1 ⟨.inl ⟨rfl,vs,.of hp⟩,?_⟩
 refine he σ (un F h) H _ (hL.froz ok.2.1) ok.thaw (zby_ (G:=F) ok _ (.inl rfl) fin fun a F' H' hra x v hv=>?_)
 obtain ⟨o,hs,ht⟩:=ok.back x
 rw [hra] at fin
 obtain ⟨hz,fin⟩:=ze8_ (show Fin K (Mo.lim (xs.length+1) (k a)) E LS LB O F0 H0 D from fin)
 obtain ⟨p',vs',e1',hp',hr',mm⟩:=zbL_ (hL.mono hs) hi o
 rw [e1] at e1'; cases e1'
 obtain ⟨h',a1,a2⟩:=mm (xs++[a]) (vs'++[v]) (hr'.append (.cons (hT ht hv) .nil))
 exact ⟨p,vs',v,rfl,rfl,hp',by rw [← hr'.len]; omega,hk a F0 H0 σ _ h' _ D a1 a2 fin⟩
theorem zi4_ {i:Nat}{xs:List α}{r:Mo (List α)}{k:List α→Mo (Out ρ B S)}(hi:L[i]?=some (.ow (owL T) xs)) (hT:Imm T) (he:EvF K e E L r (tyL T)) (hk:∀ a,EvS K u E (L.set i (.ow (owL T) (xs++a))) (k a) LS LB O) :
  EvS K (tSeq (tDrop (tBM K "list" rExtend (mVar i) (tCons e tNil))) u) E L (r.bind fun a=>.lim (xs.length+a.length) (k a)) LS LB O:=by
 intro F0 H0 σ F h H D hL ok fin
 obtain ⟨p,vs,e1,hp,hr,_⟩:=zbL_ hL hi ok
 show mVar i σ H fun x H1=>tyV K "list" x H1∧tCons e tNil σ H1 fun xs H2=>rExtend x xs H2 (fun _ H3=>u D σ H3)
 refine zcl_ e1 ⟨.inl ⟨rfl,vs,.of hp⟩,?_⟩
 refine he σ (un F h) H _ (hL.froz ok.2.1) ok.thaw (zby_ (G:=F) ok _ (.inl rfl) fin fun a F' H' hra x v ⟨p2,us,ev,hp2,hr2⟩=>?_)
 obtain ⟨o,hs,ht⟩:=ok.back x
 rw [hra] at fin
 subst ev
 obtain ⟨hz,fin⟩:=ze8_ (show Fin K (Mo.lim (xs.length+a.length) (k a)) E LS LB O F0 H0 D from fin)
 obtain ⟨p',vs',e1',hp',hr',mm⟩:=zbL_ (hL.mono hs) hi o
 rw [e1] at e1'; cases e1'
 obtain ⟨h',a1,a2⟩:=mm (xs++a) (vs'++us) (hr'.append (hr2.imm hT ht))
 exact ⟨p,p2,vs',us,rfl,rfl,hp',x.2.1 _ _ hp2,by rw [← hr'.len,← hr2.len]; exact hz,hk a F0 H0 σ _ h' _ D a1 a2 fin⟩
theorem zpr_ {i:Nat}{xs:List α}{ei:TE}{ri:Mo Int}{k:List α→Mo (Out ρ B S)}(hi:L[i]?=some (.ow (owL T) xs)) (hT:Imm T) (he:EvF K e E L r T) (hei:EvF K ei E L ri tyInt) (hk:∀ a,EvS K u E (L.set i (.ow (owL T) a)) (k a) LS LB O) :
  EvS K (tSeq (tAsg e (gSub (mVar i) ei mSet)) u) E L (r.bind fun a=>ri.bind fun j=>(Mo.opt ((ixN xs.length j).map fun n=>xs.set n a)).bind k) LS LB O:=by
 intro F0 H0 σ F h H D hL ok fin
 refine he σ (un F h) H _ (hL.froz ok.2.1) ok.thaw (zby_ (G:=F) ok _ (.inl rfl) fin fun a F' H' hra x v hv=>?_)
 obtain ⟨o,hs,ht⟩:=ok.back x
 rw [hra] at fin
 have hL':=hL.mono hs
 obtain ⟨p,vs,e1,hp,hr,_⟩:=zbL_ hL' hi o
 refine zcl_ e1 ?_
 have hv':=hT ht hv
 refine hei σ (un _ h) H' _ (hL'.froz o.2.1) o.thaw (zby_ (G:=F) o _ (.inl rfl) fin fun j F2 H2 hrj x2 v2 hv2=>?_)
 cases hv2
 obtain ⟨o',hs',ht'⟩:=o.back x2
 rw [hrj] at fin
 obtain ⟨ys,ey,fin⟩:=zor_ fin
 obtain ⟨p',vs',e1',hp',hr',mm⟩:=zbL_ (hL'.mono hs') hi o'
 rw [e1] at e1'; cases e1'
 cases ej:ixN xs.length j with
 | none=>rw [ej] at ey; cases ey
 | some n =>
  rw [ej] at ey; cases ey
  obtain ⟨h',a1,a2⟩:=mm (xs.set n a) (vs'.set n v) (hr'.set n (T.mono hs' hv'))
  refine ⟨vs',hp',?_⟩
  rw [← hr'.len,ej]
  exact hk _ F0 H0 σ _ h' _ D a1 a2 fin
noncomputable def fnO (r:Mo (Out ρ Unit Unit)):Mo ρ:=r.bind fun o=>match o with | .rt a=>.ok a | _=>.no
inductive Args (F:Hp):List V→List Sl→Prop
 | nil:Args F [] []
 | cons {α:Type}{T:Ty α}{a:α}{v:V}{vs ss} (h:T.R a v F) (t:Args F vs ss):Args F (v::vs) (.fz T a::ss)
theorem Args.hold {vs:List V}{ss:List Sl}(a:Args F vs ss) (n:Nat):Hold (ss++List.replicate n .dead) (vs.map some++List.replicate n none) F (fun _=>none):=by
 induction a with
 | nil =>
  induction n with
  | zero=>trivial
  | succ n ih=>exact ⟨fun _=>none,fun _=>none,fun p=>.inl ⟨rfl,rfl⟩,trivial,ih⟩
 | cons hv t ih=>exact ⟨fun _=>none,fun _=>none,fun p=>.inl ⟨rfl,rfl⟩,⟨_,rfl,hv⟩,ih⟩
noncomputable def CsS (C:Cs γ) (ss:γ→List Sl):Prop:=∀ {c vs F},C.R c vs F→Args F vs (ss c)
theorem zme_:CsS csNil fun _=>[]:=fun e=>by rw [e]; exact .nil
theorem zL_:CsS (csLast T) fun a=>[.fz T a]:=fun ⟨v,e,h⟩=>by rw [e]; exact .cons h .nil
theorem zaE_ {C:Cs γ}{ss:γ→List Sl}(h:CsS C ss):CsS (csCons T C) fun c=>.fz T c.1::ss c.2:=fun ⟨v,us,e,q,z⟩=>by rw [e]; exact .cons q (h z)
theorem zlc_ (hs:Same F H):Okk F H F (fun _=>none) H:=by
 refine ⟨.refl hs,fun p=>.inr rfl,fun p o e=>?_,fun p e=>absurd rfl e,fun p xs e=>?_⟩
 ·cases e
 ·cases e
theorem ze0_ {t:XK→TS}{C:Cs γ}{ss:γ→List Sl}{f:γ→Mo (Out ρ Unit Unit)}{N:List Str}(n m:Nat) (hn:CsN C n) (hm:N.length-n=m) (hC:CsS C ss) (h:∀ c E,EvS K (t E) E (ss c++List.replicate m .dead) (f c) (fun _:Unit=>[]) (fun _:Unit=>[]) O) :
  ∀ vs H Q E,Ct K C (fun c=>fnO (f c)) O vs H Q E→t E { nx:=fun _ H'=>Q .non H',rt:=Q } (start N vs) H:=by
 rintro vs H Q E ⟨F,c,hs,hc,q⟩
 have hstart:start N vs=vs.map some++List.replicate m none:=by unfold start; rw [hn hc,hm]
 rw [hstart]
 refine h c E F H _ F (fun _=>none) H _ ((hC hc).hold m) (zlc_ hs) ?_
 have q:After K (fnO (f c)) E F H (OwnK O H Q):=q
 cases e:f c with
 | no=>rw [e] at q; exact q
 | ex cc=>rw [e] at q; exact fun F h H ok=>q F H ok.1
 | ok o =>
  rw [e] at q
  cases o with
  | nx s=>exact q.elim
  | bk s=>exact q.elim
  | ct s=>exact q.elim
  | rt a=>exact fun v F' h' H' ok hv=>q F' H' ok.1 v h' (fun p z=>ok.2.2.2.1 p z) ok.2.1 ok.2.2.1 hv
end
end L2
namespace L2
open PySem PySem.Spec PyProof.Rows
section
variable {K:PySem.W.Frag}{E:XK}{α β γ ρ S S' B B':Type}{F0 H0 F h H:Hp}{L L':List Sl}{e e1 e2:TE}{T:Ty α}{r:Mo α}{O:Own ρ}{t u:TS}{LS:S→List Sl}{LS':S'→List Sl}{LB:B→List Sl}
noncomputable def CDivG (i j:Int):Prop:=0<j∧Builtin.divisionGoesByPylong i j=false
instance (i j:Int):Decidable (CDivG i j):=inferInstanceAs (Decidable (_∧_))
instance (i j:Int):Decidable (IntMulOk i j):=inferInstanceAs (Decidable (¬ _))
noncomputable abbrev mMulG:R2:=mI IntMulOk fun i j=>.int (i*j)
noncomputable abbrev mDivG:R2:=mI CDivG fun i j=>.int (i / j)
theorem znT_ {X:Cx}:OpR X (binaryOp .Mult) mMulG:=opM (opI fun _ _ _ _ _ _ _ hc q=>mul_int q hc)
theorem zdT_ {X:Cx}:OpR X (binaryOp .FloorDiv) mDivG:=opM (opI fun i j _ _ _ _ _ hc q=>by
 have h1:(0:Int)<j:=hc.1
 exact floordiv_int (by omega) (by rw [Int.fdiv_eq_ediv_of_nonneg i (by omega)]; exact q) (.inl hc.2))
theorem zcE_:Op2 K mDivG E tyInt tyInt (fun i j=>.grd (CDivG i j) (.ok (i / j))) tyInt:=op_i fun _ _ _=>rfl
theorem zix_ {Pq:α→Prop}:∀ q∈([]:List α),Pq q:=fun q h=>by cases h
theorem zfi_ {Pq:α→Prop}{a:α}{l:List α}(h:Pq a) (t:∀ q∈l,Pq q):∀ q∈a::l,Pq q:=List.forall_mem_cons.mpr ⟨h,t⟩
theorem zcT_ {r:Mo (Out ρ B S)}(w:Sub L L') (hk:EvS K t E L' r LS LB O):EvS K t E L r LS LB O:=fun F0 H0 σ F h H D hL ok fin=>hk F0 H0 σ F h H D (w.hold hL) ok fin
theorem at_ {r:Mo (Out ρ B S)}(L:List Sl) (hk:EvS K t E L r LS LB O):EvS K t E L r LS LB O:=hk
theorem zfR_ (i:Nat) {xs:List α}(h:L[i]?=some (.ow (owL T) xs)):EvF K (mVar i) E L (.ok xs) (tyL T):=zfr_ i h
theorem zdg_:EvT K tTrue E L (.ok true):=fun σ F H Q hL hs q=>q.ok hs
theorem dead1 {L:List Sl}:DeadAt (.dead::L) [0]:=fun i hi s e=>by
 cases (List.mem_singleton.mp hi); cases e; rfl
theorem dead2 {L:List Sl}:DeadAt (.dead::.dead::L) [0,1]:=fun i hi s e=>by
 rcases List.mem_cons.mp hi with rfl | hi
 ·cases e; rfl
 ·cases (List.mem_singleton.mp hi); cases e; rfl
theorem zpo_ {a:List Nat}{v:V}{F:Hp}(h:tyStr.R a v F):v≠.non:=by cases h; exact fun z=>V.noConfusion z
end
end L2
namespace L2
open PySem PySem.Spec PyProof.Rows
section
variable {α β γ ρ S S' B:Type}
@[simp] theorem Mo.okB (a:α) (f:α→Mo β):(Mo.ok a).bind f=f a:=of_eq_true (eq_self _)
@[simp] theorem Mo.exB (c:String) (f:α→Mo β):(Mo.ex c:Mo α).bind f=.ex c:=of_eq_true (eq_self _)
@[simp] theorem Mo.noB (f:α→Mo β):(Mo.no:Mo α).bind f=.no:=of_eq_true (eq_self _)
@[simp] theorem Mo.noexO (a:α):(Mo.ok a).noex=.ok a:=of_eq_true (eq_self _)
@[simp] theorem Mo.optS (a:α):Mo.opt (some a)=.ok a:=of_eq_true (eq_self _)
@[simp] theorem zgh_ (s:S) (k:S→Mo (Out ρ B S')):thenO (.ok (.nx s)) k=k s:=of_eq_true (eq_self _)
@[simp] theorem zmL_ (a:ρ) (k:S→Mo (Out ρ B S')):thenO (.ok (.rt a)) k=.ok (.rt a):=of_eq_true (eq_self _)
@[simp] theorem zmG_ (b:B) (k:S→Mo (Out ρ B S')):thenO (.ok (.bk b)) k=.ok (.bk b):=of_eq_true (eq_self _)
@[simp] theorem zm2_ (b:B) (k:S→Mo (Out ρ B S')):thenO (.ok (.ct b)) k=.ok (.ct b):=of_eq_true (eq_self _)
@[simp] theorem zpX_ (a:ρ):fnO (.ok (.rt a))=.ok a:=of_eq_true (eq_self _)
@[simp] theorem zmB_ (step:S→α→Mo (Out ρ S S)) (s:S):forO (B:=B) step [] s=.ok (.nx s):=of_eq_true (eq_self _)
theorem zlK_ (step:S→α→Mo (Out ρ S S)) (x:α) (xs:List α) (s:S):forO (B:=B) step (x::xs) s=(step s x).bind fun o=>match o with | .nx s'=>forO step xs s' | .ct s'=>forO step xs s' | .bk s'=>.ok (.nx s') | .rt a=>.ok (.rt a):=rfl
theorem zkm_ {step:S→α→Mo (Out ρ S S)}{x:α}{xs:List α}{s s':S}(h:step s x=.ok (.nx s')):forO (B:=B) step (x::xs) s=forO step xs s':=by rw [zlK_,h]; rfl
theorem zd2_ {step:S→α→Mo (Out ρ S S)}(g:S→α→S):∀ {xs:List α}{s:S},(∀ s x,x∈xs→step s x=.ok (.nx (g s x)))→forO (B:=B) step xs s=.ok (.nx (xs.foldl g s))
 | [],s,_=>rfl
 | x::xs,s,h=>by rw [zkm_ (h s x List.mem_cons_self),zd2_ g fun s y hy=>h s y (List.mem_cons_of_mem _ hy)]; rfl
theorem zjj_ {step:S→α→Mo (Out ρ S S)}(P:List α→S→Prop):∀ {xs:List α}(done:List α) {s:S},P done s→(∀ d x s,(∃ r,done++xs=d++x::r)→P d s→∃ s',step s x=.ok (.nx s')∧P (d++[x]) s')→∃ s',forO (B:=B) step xs s=.ok (.nx s')∧P (done++xs) s'
 | [],done,s,h0,_=>⟨s,rfl,by rw [List.append_nil]; exact h0⟩
 | x::xs,done,s,h0,h=>by
  obtain ⟨s1,e1,p1⟩:=h done x s ⟨xs,rfl⟩ h0
  obtain ⟨s2,e2,p2⟩:=zjj_ P (xs:=xs) (done++[x]) p1 fun d y s ⟨r,hr⟩ hp=>h d y s ⟨r,by rw [← hr]; simp⟩ hp
  exact ⟨s2,by rw [zkm_ e1,e2],by simpa using p2⟩
theorem zjb_ {step:Unit→α→Mo (Out ρ Unit Unit)}:∀ {xs:List α},(∀ x∈xs,step () x=.ok (.nx ()))→forO (B:=B) step xs ()=.ok (.nx ())
 | [],_=>rfl
 | x::xs,h=>by rw [zkm_ (h x List.mem_cons_self),zjb_ fun y hy=>h y (List.mem_cons_of_mem _ hy)]
open PySem PySem.Spec PyProof.Rows in
theorem zoA_ {a j:Int}(h0:0<j) (h:j.natAbs.log2<9000):CDivG a j:=by
 refine ⟨h0,?_⟩
 unfold Builtin.divisionGoesByPylong
 simp only
 rw [Bool.and_eq_false_iff]
 left
 rw [decide_eq_false_iff_not]
 split<;>omega
theorem log2_lt {n k:Nat}(h:n<2 ^ k):n.log2<k∨n=0:=by
 by_cases hz:n=0
 ·exact .inr hz
 ·exact .inl ((Nat.log2_lt hz).mpr h)
theorem zog_ {a j:Int}(h0:0<j) (h:j<2 ^ 1000):CDivG a j:=by
 refine zoA_ h0 ?_
 have h1:j.natAbs<2 ^ 1000:=by
  have:((2:Int) ^ 1000)=((2 ^ 1000:Nat):Int):=by rw [Int.natCast_pow]; rfl
  rw [this] at h
  omega
 rcases log2_lt h1 with h | h
 ·omega
 ·rw [h]; decide
open PySem PySem.Spec PyProof.Rows in
theorem ze4_ {i j:Int}(h : -(2 ^ 64)<i∧i<2 ^ 64 ∨ -(2 ^ 64)<j∧j<2 ^ 64):IntMulOk i j:=CMul.ok h
@[simp] theorem zoq_ {a j:Int}{k:Mo α}(h0:0<j) (h1:j<1073741824):Mo.grd (CDivG a j) k=k:=Mo.grd_ok (zog_ h0 (by omega))
@[simp] theorem grd_T {k:Mo α} [Decidable True]:Mo.grd True k=k:=Mo.grd_ok trivial
@[simp] theorem znQ_ {j:Int}{k:Mo α}(h0:0<j):Mo.grd (0<j) k=k:=Mo.grd_ok h0
open PySem PySem.Spec PyProof.Rows in
@[simp] theorem zmV_ {i j:Int}{k:Mo α}(h0 : -18446744073709551616<i) (h1:i<18446744073709551616):Mo.grd (IntMulOk i j) k=k:=Mo.grd_ok (ze4_ (.inl ⟨by omega,by omega⟩))
open PySem PySem.Spec PyProof.Rows in
theorem zkC_ {i j:Int}{k:Mo α}(h0 : -18446744073709551616<j) (h1:j<18446744073709551616):Mo.grd (IntMulOk i j) k=k:=Mo.grd_ok (ze4_ (.inr ⟨by omega,by omega⟩))
theorem zcO_ (lo:Int) (n:Nat):(rngI lo n).length=n:=by unfold rngI; rw [List.length_map,List.length_range]
theorem zmr_ {xs:List α}{k:Int}(h0:0≤k):atI xs k=xs[k.toNat]?:=by
 unfold atI ixN
 rw [if_pos h0]
 split
 ·rfl
 ·rename_i h
  rw [List.getElem?_eq_none (by omega)]; rfl
theorem zcB_ {xs:List α}{k:Int}(h0:0≤k) (h1:k<xs.length):∃ x,atI xs k=some x∧x∈xs:=by
 rw [zmr_ h0,List.getElem?_eq_getElem (show k.toNat<xs.length by omega)]
 exact ⟨_,rfl,List.getElem_mem _⟩
theorem zoO_ {xs:List α}(k:Int) (h:xs≠[]):∃ x,atI xs (k % (xs.length:Int))=some x∧x∈xs:=by
 have:0<xs.length:=List.length_pos_iff.mpr h
 exact zcB_ (Int.emod_nonneg _ (by omega)) (Int.emod_lt_of_pos _ (by omega))
theorem zen_ {q:α→α→Bool}(hq:∀ a,q a a=true):∀ xs:List α,eqL q xs xs=true
 | []=>rfl
 | x::xs=>by unfold eqL; rw [hq,zen_ hq xs]; rfl
theorem zhq_ (xs:List α) (lo hi:Option Int):(cutG xs lo hi).length≤xs.length:=by
 unfold cutG; rw [List.length_take,List.length_drop]; omega
end
end L2
namespace L2
open PySem PySem.Spec PyProof.Rows
section
variable {K:PySem.W.Frag}{E:XK}{α β γ ρ S S' B B':Type}{F0 H0 F h H:Hp}{L L':List Sl}{e e1 e2:TE}{T:Ty α}{r:Mo α}{O:Own ρ}{t u:TS}{LS:S→List Sl}{LS':S'→List Sl}{LB:B→List Sl}
theorem zkE_ {n:Nat}{j:Int}{k:Nat}(h:ixN n j=some k):k<n:=by
 unfold ixN at h
 split at h
 ·split at h
  ·cases h; omega
  ·cases h
 ·split at h
  ·cases h; omega
  ·cases h
theorem zn9_ {p:Addr}{o':HO}{h1' hr h':Hp}(ok:Okk F0 H0 F h H) (hp:h p≠none) (nt:∀ xs,o'≠.tup xs) (h':Hp) (hh:∀ q,h' q=if q=p then some o' else h q):Okk F0 H0 F h' (upd H p o'):=by
 obtain ⟨o1,o2,o3,o4,o5⟩:=ok
 have Fp:F p=none:=by
  rcases o2 p with z | z
  ·exact z
  ·exact absurd z hp
 have H0p:H0 p=none:=o4 p hp
 refine ⟨⟨o1.1,fun q o z=>?_,fun q o z=>?_,o1.2.2.2⟩,fun q=>?_,fun q o z=>?_,fun q z=>?_,fun q ys z=>?_⟩
 ·unfold upd; split
  ·rename_i w; rw [w,Fp] at z; cases z
  ·exact o1.2.1 _ _ z
 ·unfold upd; split
  ·rename_i w; rw [w,H0p] at z; cases z
  ·exact o1.2.2.1 _ _ z
 ·rw [hh]; split
  ·rename_i w; rw [w]; exact .inl Fp
  ·exact o2 q
 ·rw [hh] at z; unfold upd
  split at z
  ·rename_i w; rw [if_pos w]; exact z
  ·rename_i w; rw [if_neg w]; exact o3 _ _ z
 ·rw [hh] at z; split at z
  ·rename_i w; rw [w]; exact H0p
  ·exact o4 q z
 ·rw [hh] at z; split at z
  ·exact nt ys (by injection z)
  ·exact o5 q ys z
end
end L2
namespace L2
open PySem PySem.Spec PyProof.Rows
section
variable {K:PySem.W.Frag}{E:XK}{α β γ ρ S S' B B':Type}{F0 H0 F h H:Hp}{L L':List Sl}{e e1 e2:TE}{T:Ty α}{r:Mo α}{O:Own ρ}{t u:TS}{LS:S→List Sl}{LS':S'→List Sl}{LB:B→List Sl}
@[irreducible] def fuelW:Nat:=100000
noncomputable def mLtS:R2:=fun x y H Q=>match x,y with
 | .int i,.int j=>Q (.bl (decide (i<j))) H
 | .str i,.str j=>Q (.bl (decide (i.cps.toList<j.cps.toList))) H
 | _,_=>False
theorem zn3_ {X:Cx}:OpR X (compareOp .Lt) mLtS:=by
 intro pins s σ H x y v u Q I rx ry h
 cases x<;>cases y<;>first
  | exact h.elim
  | exact op_lt pins s σ H _ _ v u Q I rx ry ⟨_,_,rfl,rfl,h⟩
  | exact zlp_ pins s σ H _ _ v u Q I rx ry ⟨_,_,rfl,rfl,h⟩
end
end L2
namespace L2
open PySem PySem.Spec PyProof.Rows
section
variable {α:Type}
theorem zbA_ {S B ρ:Type}{step:S→α→Mo (Out ρ S S)}{xs:List α}{s:S}{G:Mo (Out ρ B S)→Prop}(P:List α→S→Prop) (h0:P [] s) (hs:∀ d x s,(∃ r,xs=d++x::r)→P d s→∃ s',step s x=.ok (.nx s')∧P (d++[x]) s') (hk:∀ s',P xs s'→G (.ok (.nx s'))):G (forO step xs s):=by
 obtain ⟨s',e,p⟩:=zjj_ (B:=B) P (xs:=xs) [] h0 (fun d x s hr hp=>hs d x s hr hp)
 rw [e]
 exact hk s' p
end
noncomputable abbrev Crd:=List Nat
noncomputable def sg (c:Crd) (col:Int):Nat:=c.getD (col-1).toNat 0
noncomputable def rk1 (x:Nat):Nat:=(SG.findIdx? (· == x)).getD 0 % 37
noncomputable def rnk (c:Crd) (col:Int):Nat:=rk1 (sg c col)
noncomputable def kv:List Int→Crd→Nat
 | [],_=>0
 | c::L,a=>rnk a c*37 ^ L.length+kv L a
end L2
namespace L2
open PySem PySem.Spec PyProof.Rows
end L2
namespace L2
open PySem PySem.Spec PyProof.Rows
open PySem.SeqAt
open PySem.AutoSeq1 (wpAny_loadPart')
open PySem.MeetsSeq PySem.MeetsSeq2 PySem.MeetsSeq3
theorem zjH_:entryFor table "list.__eq__.loop" = some Builtin.«list.__eq__.loop»:=by kernel_rfl!
theorem zgG_ (A:Around) (args:PySem.Args):A.under (Code.builtin "list.__eq__.loop" args)=A.in1:=by rfl
theorem zgI_ (args:PySem.Args):(Code.builtin "list.__eq__.loop" args).quiet=true:=by first | kernel_rfl! | simp [Code.quiet] | (unfold Code.quiet; decide +kernel)
theorem zfa_:∀ {vs:List Value}{ns:List Int},IntsAre vs ns→∀ i:Nat,(vs[i]?=none∧ns[i]?=none)∨∃ a t,vs[i]?=some (.int a t)∧ns[i]?=some a
 | _,_,.nil,i=>.inl ⟨rfl,rfl⟩
 | _,_,.cons a t h,0=>.inr ⟨a,t,rfl,rfl⟩
 | _,_,.cons a t h,i+1=>by simpa using zfa_ h i
theorem zeo_ {α:Type}{xs:List α}{i:Nat}{a:α}(h:xs[i]?=some a):xs.drop i=a::xs.drop (i+1):=by
 obtain ⟨hi,e⟩:=List.getElem?_eq_some_iff.mp h
 rw [← e]; exact List.drop_eq_getElem_cons hi
theorem zgm_ {α:Type}{xs:List α}{i:Nat}(h:xs[i]?=none):xs.drop i=[]:=List.drop_eq_nil_of_le (List.getElem?_eq_none_iff.mp h)
theorem zhW_ (l b:Addr) (items items2:Array Value) (n n2:Nat) (dd dd2:Option Addr) (sl sl2:Array (Option Value)) (ns ms:List Int) (hi:IntsAre items.toList ns) (hj:IntsAre items2.toList ms):∀ (k i:Nat),items.size-i=k→i≤items.size→i≤items2.size →
  Meets (Builtin.«list.__eq__.loop» ⟨[.ref l,.ref b,rawInt (i:Nat),rawInt 0],[]⟩)
   (fun _ R s=>s.heap.get? l=some { cls:=.type "list",dict:=dd,data:=.seq items n,slots:=sl }∧s.heap.get? b=some { cls:=.type "list",dict:=dd2,data:=.seq items2 n2,slots:=sl2 } ∧
    R (.ok (.ret (.bool (HT.lexLt (ns.drop i) (ms.drop i))))) s):=by
 intro k
 induction k with
 | zero =>
  intro i hk b1 b2 prog w A R s h
  obtain ⟨hl,hb,h⟩:=h
  wp_walk using wpAny_listItems hl rfl,wpAny_listItems hb rfl
  have e1:items[i]?=none:=Array.getElem?_eq_none (by omega)
  have e1':ns[i]?=none:=by
   rcases zfa_ hi i with ⟨_,z⟩ | ⟨a,t,z,_⟩
   ·exact z
   ·rw [Array.getElem?_toList,e1] at z; cases z
  rw [Int.toNat_natCast,e1]
  rw [zgm_ e1'] at h
  rcases zfa_ hj i with ⟨z1,z2⟩ | ⟨c,u,z1,z2⟩
  ·rw [Array.getElem?_toList] at z1
   rw [z1]
   rw [zgm_ z2] at h
   wp_walk using wpAny_listItems hl rfl,wpAny_listItems hb rfl
   show R (.ok (.ret (.bool (decide (items.size<items2.size))))) s
   have z1:=Array.getElem?_eq_none_iff.mp z1
   rw [decide_eq_false (by omega)]; exact h
  ·rw [Array.getElem?_toList] at z1
   rw [z1]
   rw [zeo_ z2] at h
   wp_walk using wpAny_listItems hl rfl,wpAny_listItems hb rfl
   show R (.ok (.ret (.bool (decide (items.size<items2.size))))) s
   have z3:=(Array.getElem?_eq_some_iff.mp z1).1
   rw [decide_eq_true (by omega)]; exact h
 | succ k ih =>
  intro i hk b1 b2 prog w A R s h
  obtain ⟨hl,hb,h⟩:=h
  wp_walk using wpAny_listItems hl rfl,wpAny_listItems hb rfl
  rw [Int.toNat_natCast]
  rcases zfa_ hi i with ⟨z1,z2⟩ | ⟨a,t,z1,z2⟩
  ·rw [Array.getElem?_toList] at z1
   rw [Array.getElem?_eq_none_iff] at z1; omega
  rw [Array.getElem?_toList] at z1
  rw [z1]
  rw [zeo_ z2] at h
  rcases zfa_ hj i with ⟨y1,y2⟩ | ⟨c,u,y1,y2⟩
  ·rw [Array.getElem?_toList] at y1
   rw [y1]
   rw [zgm_ y2] at h
   wp_walk using wpAny_listItems hl rfl,wpAny_listItems hb rfl
   show R (.ok (.ret (.bool (decide (items.size<items2.size))))) s
   have z3:=(Array.getElem?_eq_some_iff.mp z1).1
   have y3:=Array.getElem?_eq_none_iff.mp y1
   rw [decide_eq_false (by omega)]; exact h
  rw [Array.getElem?_toList] at y1
  rw [y1]
  rw [zeo_ y2,HT.lexLt_cons] at h
  obtain ⟨e,he,hiff⟩:=HT.eqAt_int A.in1 s a t c u
  refine wpAny_bind (he prog w _ _ ?_)
  cases e with
  | true =>
   rw [if_pos (hiff.mp rfl)] at h
   wp_walk
   refine ⟨zgI_ _,codeAny_builtin zjH_ ?_⟩
   rw [zgG_]
   have q1:=(Array.getElem?_eq_some_iff.mp z1).1
   have q2:=(Array.getElem?_eq_some_iff.mp y1).1
   exact ih (i+1) (by omega) (by omega) (by omega) prog w A R s ⟨hl,hb,h⟩
  | false =>
   rw [if_neg (fun q=>absurd (hiff.mpr q) Bool.false_ne_true)] at h
   have hri:=HT.rcLt_int A.in1 s a t c u prog w
   wp_walk using wpAny_listItems hl rfl,wpAny_listItems hb rfl
   rw [z1,y1]
   wp_walk using hri
   exact h
theorem zh4_ (l b:Addr) (items items2:Array Value) (n n2:Nat) (dd dd2:Option Addr) (sl sl2:Array (Option Value)) (ns ms:List Int) (hi:IntsAre items.toList ns) (hj:IntsAre items2.toList ms) :
  Meets (Builtin.«list.__lt__» ⟨[.ref l,.ref b],[]⟩)
   (fun _ R s=>s.heap.get? l=some { cls:=.type "list",dict:=dd,data:=.seq items n,slots:=sl }∧s.heap.get? b=some { cls:=.type "list",dict:=dd2,data:=.seq items2 n2,slots:=sl2 } ∧
    R (.ok (.ret (.bool (HT.lexLt ns ms)))) s):=by
 intro prog w A R s h
 obtain ⟨hl,hb,h⟩:=h
 have f2:=AutoSeq1.sub_list_list
 wp_walk using wpAny_loadPart' hl,wpAny_loadPart' hb
 refine ⟨zgI_ _,codeAny_builtin zjH_ ?_⟩
 rw [zgG_]
 exact zhW_ l b items items2 n n2 dd dd2 sl sl2 ns ms hi hj _ 0 rfl (Nat.zero_le _) (Nat.zero_le _) prog w A R s ⟨hl,hb,h⟩
theorem ziA_ {prog:Program}{w:World}{A:Around}{E:Value→Shared→Prop}{s:Shared}{l b:Addr}{items items2:Array Value}{ns ms:List Int}{Q:Value→Shared→Prop}(hl:s.heap.IsList l items) (hb:s.heap.IsList b items2) (hi:IntsAre items.toList ns) (hj:IntsAre items2.toList ms)
  (hu:A.units<cLine) (h:Q (.bool (HT.lexLt ns ms)) s):wpAny (model prog w) A (compareOp .Lt (.ref l) (.ref b)) Q E s:=by
 obtain ⟨⟨cls,dd,data,sl⟩,ho,hc,n,hd⟩:=id hl
 obtain ⟨⟨cls2,dd2,data2,sl2⟩,ho2,hc2,n2,hd2⟩:=id hb
 simp only at hc hd hc2 hd2
 subst hc hd hc2 hd2
 exact richCompare_meets_room (op:=.Lt) ⟨_,ho,rfl⟩ ⟨_,ho2,rfl⟩ PySem.F.slot_list_lt PySem.F.entry_list_lt (PySem.F.args_list_lt_2 _ _) (zh4_ l b items items2 n n2 dd dd2 sl sl2 ns ms hi hj)
  ⟨ho,ho2,show Value.bool (HT.lexLt ns ms)≠Value.notImplemented∧Q (.bool (HT.lexLt ns ms)) s from ⟨(fun x=>nomatch x),h⟩⟩ hu
end L2
namespace L2
open PySem PySem.Spec PyProof.Rows
noncomputable def mLtK (K:PySem.W.Frag):R2:=fun x y H Q=>match x,y with
 | .ref a,.ref b=>∃ ns ms,SqL K H a (ns.map V.int)∧SqL K H b (ms.map V.int)∧Q (.bl (HT.lexLt ns ms)) H
 | _,_=>mLtS x y H Q
theorem zoD_ {X:Cx}(hu:X.A.units+60<cLine):OpR X (compareOp .Lt) (mLtK X.K):=by
 intro pins s σ H x y v u Q I rx ry h
 cases x<;>cases y<;>first
  | exact zn3_ pins s σ H _ _ v u Q I rx ry h
  | (obtain ⟨ns,ms,ha,hb,q⟩:=h
     cases rx
     cases ry
     obtain ⟨its,r1,p1,_⟩:=I.list ha
     obtain ⟨its2,r2,p2,_⟩:=I.list hb
     have i1:IntsAre its.toArray.toList ns:=zgE_ r1
     have i2:IntsAre its2.toArray.toList ms:=zgE_ r2
     exact ziA_ p1.isList p2.isList i1 i2 (by omega) ⟨.bl (HT.lexLt ns ms),H,I,rfl,q⟩)
section
variable {K:PySem.W.Frag}{E:XK}{H:Hp}
theorem zl5_:Op2 K (mLtK K) E tyInt tyInt (fun i j=>.ok (decide (i<j))) tyBl:=by
 rintro a b x y F H Q hs rfl rfl k
 exact k.ok hs _ rfl
end
end L2
namespace L2
open PySem PySem.Spec PyProof.Rows
section
variable {α:Type}
theorem zm8_ {n d:Nat}{i:Int}(h:0≤i):HT.sIx n d (some i)=min i.toNat n:=by
 unfold HT.sIx
 simp only
 split<;>omega
theorem zia_ {xs:List α}{i:Int}(h:0≤i):cutG xs (some i) none=xs.drop i.toNat:=by
 unfold cutG
 rw [zm8_ h,show HT.sIx xs.length xs.length none=xs.length from rfl]
 by_cases hl:i.toNat≤xs.length
 ·rw [Nat.min_eq_left hl,List.take_of_length_le (by rw [List.length_drop]; exact Nat.le_refl _)]
 ·rw [Nat.min_eq_right (by omega),List.drop_length,List.drop_eq_nil_of_le (by omega),List.take_nil]
end
end L2
namespace L2
open PySem PySem.Spec PyProof.Rows
section
variable {K:PySem.W.Frag}{E:XK}{α β γ ρ S S' B B':Type}{F0 H0 F h H:Hp}{L L':List Sl}{e e1 e2:TE}{T:Ty α}{r:Mo α}{O:Own ρ}{t u:TS}{LS:S→List Sl}{LS':S'→List Sl}{LB:B→List Sl}
theorem zR_ {C:Cs γ}{f:γ→Mo α}{ta:TA}{r:Mo γ}(h:EvA K ta E L r C):EvF K (tCall (Ct K C f (owF T)) [] E0 ta) E L (r.bind fun c=>(f c).noex) T:=(zdJ_ h).fr
end
end L2
namespace L2
open PySem PySem.Spec PyProof.Rows
noncomputable def repL {α:Type}(xs:List α) (n:Int):List α:=(List.replicate n.toNat xs).flatten
noncomputable def CRep (m:Nat) (n:Int):Prop:=0≤n∧n≤100000∧m≤100000∧m*n.toNat≤100000
instance (m:Nat) (n:Int):Decidable (CRep m n):=inferInstanceAs (Decidable (_∧_))
noncomputable def mMulX:R2:=fun x y H Q=>match x,y with
 | .int i,.int j=>IntMulOk i j∧Q (.int (i*j)) H
 | .str z,.int n=>CRep z.cps.toList.length n∧Q (tx (repL z.cps.toList n)) H
 | .ref l,.int k=>∃ xs,H l=some (.lst xs)∧CRep xs.length k∧∀ p,H p=none→Q (.ref p) (upd H p (.lst (repL xs k)))
 | _,_=>False
theorem zlT_ (z:Array Nat) (n:Nat):(List.foldl (fun x1 x2=>x1++x2) #[] (List.replicate n z)).toList=(List.replicate n z.toList).flatten:=by
 have:∀ (l:List (Array Nat)) (acc:Array Nat),(l.foldl (fun x1 x2=>x1++x2) acc).toList=acc.toList++(l.map Array.toList).flatten:=by
  intro l
  induction l with
  | nil=>intro acc; simp
  | cons a l ih=>intro acc; rw [List.foldl_cons,ih]; simp
 rw [this]
 simp
theorem ze2_ {X:Cx}:OpR X (binaryOp .Mult) mMulX:=by
 intro pins s σ H x y v u Q I rx ry h
 cases x<;>cases y<;>first
  | exact h.elim
  | exact znT_ pins s σ H _ _ v u Q I rx ry h
  | (obtain ⟨xs,hl,⟨c1,c2,c3,c4⟩,q⟩:=h
     exact zqv_ pins s σ H _ _ v u Q I rx ry ⟨_,_,xs,rfl,rfl,hl,by omega,by omega,zeu_ c4,q⟩)
  | (rename_i z n
     obtain ⟨⟨c1,c2,c3,c4⟩,q⟩:=h
     obtain ⟨t,rfl⟩:=rx
     obtain ⟨t',rfl⟩:=ry
     have hz:z.length=z.cps.toList.length:=by simp [Str.length]
     refine PySem.P.mul_str (by simp; omega) (fun h1 h2=>?_) (fun h1 h2=>?_) ?_
     ·rw [hz]
      have hn:0<n:=by omega
      have:(z.cps.toList.length:Int)*n≤2 ^ 63-1:=by
       have e:n=(n.toNat:Int):=by omega
       rw [e,← Int.natCast_mul]; omega
      have:=Int.le_ediv_of_mul_le hn this
      omega
     ·unfold Builtin.Str.tooLong
      rw [hz]
      have:=zeu_ c4
      exact decide_eq_false (by omega)
     ·by_cases h1:n<1
      ·rw [if_pos h1]
       have:n=0:=by omega
       subst this
       exact ⟨Nat.zero_le _,tx [],H,I.tok _,⟨_,rfl⟩,q⟩
      ·rw [if_neg h1]
       by_cases h2:(n == 1 || z.length == 0)=true
       ·rw [if_pos h2]
        have e:repL z.cps.toList n=z.cps.toList:=by
         unfold repL
         rw [Bool.or_eq_true] at h2
         rcases h2 with h2 | h2
         ·have:n=1:=by simpa using h2
          subst this; simp
         ·have:z.cps.toList=[]:=List.length_eq_zero_iff.mp (by rw [← hz]; simpa using h2)
          rw [this]; simp
        rw [e] at q
        refine ⟨tx z.cps.toList,H,I,⟨t,?_⟩,q⟩
        show Value.str z t=Value.str ⟨z.cps.toList.toArray⟩ t
        rw [← zbN_]
       ·rw [if_neg h2]
        refine ⟨?_,tx (repL z.cps.toList n),H,I.tok _,⟨s.toks,?_⟩,q⟩
        ·have e:(⟨List.foldl (fun x1 x2=>x1++x2) #[] (List.replicate n.toNat z.cps)⟩:Str).length=(List.replicate n.toNat z.cps.toList).flatten.length:=by
          rw [← zlT_]; simp [Str.length]
         rw [e,zml_]
         exact zeu_ (by rw [Nat.mul_comm]; exact c4)
        show Value.str _ _=Value.str _ _
        congr 1
        unfold repL
        rw [← zlT_])
section
variable {K:PySem.W.Frag}{E:XK}{α β γ ρ S S' B B':Type}{F0 H0 F h H:Hp}{L L':List Sl}{e e1 e2:TE}{T:Ty α}{r:Mo α}{O:Own ρ}{t u:TS}{LS:S→List Sl}{LB:B→List Sl}
theorem zfg_:Op2 K mMulX E tyInt tyInt (fun i j=>.grd (IntMulOk i j) (.ok (i*j))) tyInt:=by
 rintro a b x y F H Q hs rfl rfl k
 obtain ⟨c,k⟩:=k.grd
 exact ⟨c,k.ok hs _ rfl⟩
theorem znp_:Op2 K mMulX E tyStr tyInt (fun l n=>.grd (CRep l.length n) (.ok (repL l n))) tyStr:=by
 rintro a b x y F H Q hs rfl rfl k
 obtain ⟨c,k⟩:=k.grd
 exact ⟨c,k.ok hs _ rfl⟩
theorem zo5_ {xs:List α}{vs:List V}(hr:Prs T H xs vs) (n:Int):Prs T H (repL xs n) (repL vs n):=by
 unfold repL
 induction n.toNat with
 | zero=>exact .nil
 | succ m ih=>rw [List.replicate_succ,List.replicate_succ,List.flatten_cons,List.flatten_cons]; exact hr.append ih
theorem zmx_:Op2O K mMulX E (tyL T) tyInt (fun l n=>.grd (CRep l.length n) (.ok (repL l n))) (owL T):=by
 rintro a b x y F H Q hs ⟨p,vs,rfl,hp,hr⟩ rfl k
 obtain ⟨c,k⟩:=k.grd
 exact ⟨vs,hs _ _ hp,by rw [← hr.len]; exact c,fun q hq=>zet_ hs hq (zo5_ hr b) k⟩
noncomputable def strsL (l:List (List Nat)):List Str:=l.map fun z=>⟨z.toArray⟩
theorem znb_ {l:List (List Nat)}{vs:List V}(h:Prs tyStr H l vs):strsOf vs=some (strsL l):=by
 induction h with
 | nil=>rfl
 | cons r t ih=>cases r; show (strsOf _).map _=_; rw [ih]; rfl
theorem zjh_:Me K (mJoin K) E (csLast (tyL tyStr)) (fun l c=>.grd (JoinOk ⟨l.toArray⟩ (strsL c)=true) (.ok (joinS l (strsL c)))) tyStr:=by
 rintro l c vs F H Q hs ⟨v,rfl,p,us,rfl,hp,hr⟩ k
 obtain ⟨z,k⟩:=k.grd
 refine ⟨us,.of (hs _ _ hp),?_⟩
 rw [znb_ hr]
 exact ⟨z,k.ok hs _ rfl⟩
theorem zlg_ {i:Nat}{xs:List α}{k:α→Mo (Out ρ B S)}(hi:L[i]?=some (.ow (owL T) xs)) (he:EvF K e E (L.map Sl.cold) r T) (hk:∀ a,EvS K u E (L.set i (.ow (owL T) (xs++[a]))) (k a) LS LB O) :
  EvS K (tSeq (tDrop (tBM K "list" rAppend (mVar i) (tCons e tNil))) u) E L (r.bind fun a=>.lim (xs.length+1) (k a)) LS LB O:=by
 intro F0 H0 σ F h H D hL ok fin
 obtain ⟨p,vs,e1,hp,hr,_⟩:=zbL_ hL hi ok
 show mVar i σ H fun x H1=>tyV K "list" x H1∧tCons e tNil σ H1 fun xs H2=>rAppend x xs H2 (fun _ H3=>u D σ H3)
 refine zcl_ e1 ⟨.inl ⟨rfl,vs,.of hp⟩,?_⟩
 refine he σ F H _ hL.coldF ok.1.2.1 (zby_ (G:=F) ok _ (.inr rfl) fin fun a F' H' hra x v hv=>?_)
 rw [hra] at fin
 obtain ⟨hz,fin⟩:=ze8_ (show Fin K (Mo.lim (xs.length+1) (k a)) E LS LB O F0 H0 D from fin)
 obtain ⟨p',vs',e1',hp',hr',mm⟩:=zbL_ (hL.mono x.1) hi (ok.cold x)
 rw [e1] at e1'; cases e1'
 obtain ⟨h',a1,a2⟩:=mm (xs++[a]) (vs'++[v]) (hr'.append (.cons hv .nil))
 exact ⟨p,vs',v,rfl,rfl,hp',by rw [← hr'.len]; omega,hk a F0 H0 σ _ h' _ D a1 a2 fin⟩
end
end L2
namespace L2
open PySem PySem.Spec PyProof.Rows
structure KyT (κ:Type) where
 T:Ty κ
 key:κ→Key
 inj:∀ {a b},key a=key b→a=b
 of:∀ {a v H},T.R a v H→keyV v=some (key a)
noncomputable abbrev kInt:KyT Int:=⟨tyInt,Sum.inl,fun h=>by injection h,fun h=>by cases h; rfl⟩
section
variable {K:PySem.W.Frag}{E:XK}{α β γ ρ κ S S' B B':Type}{F0 H0 F h H:Hp}{L L':List Sl}{e e1 e2:TE}{T:Ty α}{r:Mo α}{O:Own ρ}{t u:TS}{LS:S→List Sl}{LB:B→List Sl}{KY:KyT κ}
noncomputable abbrev DPr (KY:KyT κ) (T:Ty α) (H:Hp) (m:List (κ×α)) (kvs:List (Key×V)):Prop:=Paired (fun (q:κ×α) (w:Key×V)=>w.1=KY.key q.1∧T.R q.2 w.2 H) m kvs
theorem DPr.mono {m:List (κ×α)}{kvs:List (Key×V)}{H H':Hp}(g:Same H H') (h:DPr KY T H m kvs):DPr KY T H' m kvs:=zdb_ (fun _ _ r=>⟨r.1,T.mono g r.2⟩) h
theorem DPr.imm (i:Imm T) {m:List (κ×α)}{kvs:List (Key×V)}{H H':Hp}(g:Tups H H') (h:DPr KY T H m kvs):DPr KY T H' m kvs:=zdb_ (fun _ _ r=>⟨r.1,i g r.2⟩) h
noncomputable abbrev tyD (KY:KyT κ) (T:Ty α):Ty (List (κ×α)):=⟨fun m v H=>∃ p kvs,v=.ref p∧H p=some (.dK kvs)∧DPr KY T H m kvs,fun g ⟨p,kvs,e,h,q⟩=>⟨p,kvs,e,g _ _ h,q.mono g⟩⟩
noncomputable abbrev owD (KY:KyT κ) (T:Ty α):Own (List (κ×α)):=⟨fun m v F h=>∃ p kvs,v=.ref p∧h=one p (.dK kvs)∧DPr KY T F m kvs,tyD KY T,fun g ⟨p,vs,e,z,q⟩=>⟨p,vs,e,z,q.mono g⟩,
 fun d ⟨p,vs,e,z,q⟩=>⟨p,vs,e,zhv_ d _ _ (by rw [z]; exact zbk_),q.mono zbq_⟩,
 fun ⟨p,vs,e,z,q⟩ b xs y=>by rw [z] at y; unfold one at y; split at y<;>cases y⟩
theorem zfs_ (i:Imm T):ImmO (owD KY T):=fun g ⟨p,vs,e,z,q⟩=>⟨p,vs,e,z,q.imm i g⟩
variable [DecidableEq κ]
noncomputable def getA (m:List (κ×α)) (k:κ):Option α:=(m.find? fun q=>decide (q.1=k)).map (·.2)
noncomputable def putA (m:List (κ×α)) (k:κ) (v:α):List (κ×α):=if (m.any fun q=>decide (q.1=k))=true then m.map (fun q=>if q.1=k then (q.1,v) else q) else m++[(k,v)]
theorem zlV_ (a b:κ):decide (KY.key a=KY.key b)=decide (a=b):=by rw [decide_eq_decide]; exact ⟨KY.inj,fun h=>by rw [h]⟩
theorem zo7_ {m:List (κ×α)}{kvs:List (Key×V)}(h:DPr KY T H m kvs) (k:κ):(getA m k=none∧valV kvs (KY.key k)=none)∨∃ a v,getA m k=some a∧valV kvs (KY.key k)=some v∧T.R a v H:=by
 induction h with
 | nil=>exact .inl ⟨rfl,rfl⟩
 | cons r t ih =>
  rename_i q w m kvs
  unfold getA valV at ih ⊢
  rw [List.find?_cons,List.find?_cons,r.1,zlV_]
  by_cases e:q.1=k
  ·rw [decide_eq_true e]; exact .inr ⟨_,_,rfl,rfl,r.2⟩
  ·rw [decide_eq_false e]; exact ih
theorem zo8_ {m:List (κ×α)}{kvs:List (Key×V)}(h:DPr KY T H m kvs) (k:κ):(kvs.any fun w=>decide (w.1=KY.key k))=m.any fun q=>decide (q.1=k):=by
 induction h with
 | nil=>rfl
 | cons r t ih=>rw [List.any_cons,List.any_cons,ih,r.1,zlV_]
theorem zoC_ {m m':List (κ×α)}{kvs kvs':List (Key×V)}(h:DPr KY T H m kvs) (h':DPr KY T H m' kvs'):DPr KY T H (m++m') (kvs++kvs'):=by
 induction h with
 | nil=>exact h'
 | cons r t ih=>exact .cons r ih
theorem zoR_ {m:List (κ×α)}{kvs:List (Key×V)}(h:DPr KY T H m kvs) (k:κ) {a:α}{v:V}(hv:T.R a v H):DPr KY T H (m.map fun q=>if q.1=k then (q.1,a) else q) (kvs.map fun w=>if w.1=KY.key k then (w.1,v) else w):=by
 induction h with
 | nil=>exact .nil
 | cons r t ih =>
  rename_i q w m kvs
  rw [List.map_cons,List.map_cons]
  refine .cons ?_ ih
  by_cases e:q.1=k
  ·rw [if_pos e,if_pos (by rw [r.1,e])]; exact ⟨r.1,hv⟩
  ·rw [if_neg e,if_neg (fun z=>e (KY.inj (by rw [← r.1,z])))]; exact r
theorem zmk_ {m:List (κ×α)}{kvs:List (Key×V)}(h:DPr KY T H m kvs) (k:κ) {a:α}{v:V}(hv:T.R a v H):DPr KY T H (putA m k a) (putK kvs (KY.key k) v):=by
 unfold putA putK
 rw [zo8_ h]
 split
 ·exact zoR_ h k hv
 ·exact zoC_ h (.cons ⟨rfl,hv⟩ .nil)
theorem zmb_ (KY:KyT κ) (T:Ty α):EvO K tDNewK E L (.ok []) (owD KY T):=by
 intro σ F H Q hL hs q p hp
 have q':OwnK (owD KY T) H Q [] F (upd H p (.dK [])):=q F _ (.heap hs (zep_ hp _))
 refine q' (.ref p) (one p (.dK [])) (fun b z=>?_) (fun b=>?_) (fun b o z=>?_) ⟨p,[],rfl,rfl,.nil⟩
 ·unfold one at z; split at z
  ·rename_i e; rw [e]; exact hp
  ·exact absurd rfl z
 ·unfold one; split
  ·rename_i e; rw [e]; exact .inl (hs.free hp)
  ·exact .inr rfl
 ·unfold one at z; split at z
  ·rename_i e; rw [e]; cases z; exact zaY_
  ·cases z
theorem zoQ_ (i:Nat) {m:List (κ×α)}(h:L[i]?=some (.ow (owD KY T) m)):EvF K (mVar i) E L (.ok m) (tyD KY T):=zfr_ i h
theorem at_d {x y:V}{R:Addr→List (Key×V)→Key→Prop}{m:List (κ×α)}{k:κ}(hx:(tyD KY T).R m x F) (hy:KY.T.R k y F) (hs:Same F H) (hr:∀ p kvs,H p=some (.dK kvs)→DPr KY T F m kvs→R p kvs (KY.key k)):atD x y H R:=by
 obtain ⟨p,kvs,rfl,hp,hd⟩:=hx
 unfold atD
 simp only
 rw [KY.of hy]
 exact ⟨kvs,hs _ _ hp,hr p kvs (hs _ _ hp) hd⟩
theorem zin_ {i:Nat}{σ:St}{m:List (κ×α)}(hL:Hold L σ F h) (hi:L[i]?=some (.ow (owD KY T) m)) (ok:Okk F0 H0 F h H) :
  ∃ p kvs,σ[i]?=some (some (.ref p))∧H p=some (.dK kvs)∧DPr KY T F m kvs∧∀ m' kvs',DPr KY T F m' kvs'→∃ h',Hold (L.set i (.ow (owD KY T) m')) σ F h'∧Okk F0 H0 F h' (upd H p (.dK kvs')):=by
 obtain ⟨o,h1,h2,e1,j,⟨v,e2,p,kvs,rfl,rfl,hr⟩,f⟩:=hL.at i hi
 subst e2
 have hp:h p=some (.dK kvs):=j.l _ _ zbk_
 have h2p:h2 p=none:=by
  rcases j.dj p with z | z
  ·rw [zbk_] at z; cases z
  ·exact z
 refine ⟨p,kvs,e1,ok.2.2.1 _ _ hp,hr,fun m' kvs' hr'=>?_⟩
 have d2:Dj (one p (.dK kvs')) h2:=fun q=>by
  unfold one; split
  ·rename_i z; rw [z]; exact .inr h2p
  ·exact .inl rfl
 have g:=f (.ow (owD KY T) m') (some (.ref p)) (one p (.dK kvs')) _ (zdN_ d2) ⟨_,rfl,p,kvs',rfl,rfl,hr'⟩
 rw [zb2_ e1] at g
 refine ⟨_,g,zn9_ (h1':=h) (hr:=h) (h':=h) ok (by rw [hp]; exact Option.some_ne_none _) (fun xs z=>by cases z) _ fun b=>?_⟩
 unfold un one
 by_cases z:b=p
 ·simp only [if_pos z]
 ·simp only [if_neg z]
  rcases j b with ⟨_,c⟩ | ⟨a,c⟩
  ·exact c.symm
  ·rw [c,a]; unfold one; rw [if_neg z]
theorem zpK_ {i:Nat}{m:List (κ×α)}{r2:Mo κ}{k:α→κ→Mo (Out ρ B S)}(hi:L[i]?=some (.ow (owD KY T) m)) (hT:Imm T) (hKT:Imm KY.T) (he:EvF K e E L r T) (he2:EvF K e2 E L r2 KY.T) (hk:∀ a y,EvS K u E (L.set i (.ow (owD KY T) (putA m y a))) (k a y) LS LB O) :
  EvS K (tSeq (mDPut (mVar i) e2 e) u) E L (r.bind fun a=>r2.bind fun y=>.lim (m.length+1) (k a y)) LS LB O:=by
 intro F0 H0 σ F h H D hL ok fin
 show e σ H fun v H1=>mVar i σ H1 fun x H2=>e2 σ H2 fun y H3=>atD x y H3 fun a kvs k=>kvs.length<sizeLine∧u D σ (upd H3 a (.dK (putK kvs k v)))
 refine he σ (un F h) H _ (hL.froz ok.2.1) ok.thaw (zby_ (G:=F) ok _ (.inl rfl) fin fun a F1 H1 hra x1 v hv=>?_)
 obtain ⟨o,hs,ht⟩:=ok.back x1
 rw [hra] at fin
 have hL':=hL.mono hs
 have hv':=hT ht hv
 obtain ⟨p,kvs,e1,hp,hr,_⟩:=zin_ hL' hi o
 refine zcl_ e1 ?_
 refine he2 σ (un _ h) H1 _ (hL'.froz o.2.1) o.thaw (zby_ (G:=F) o _ (.inl rfl) fin fun y F2 H2 hry x2 v2 hv2=>?_)
 obtain ⟨o',hs',ht'⟩:=o.back x2
 rw [hry] at fin
 obtain ⟨hz,fin⟩:=ze8_ (show Fin K (Mo.lim (m.length+1) (k a y)) E LS LB O F0 H0 D from fin)
 obtain ⟨p',kvs',e1',hp',hr',mm⟩:=zin_ (hL'.mono hs') hi o'
 rw [e1] at e1'; cases e1'
 obtain ⟨h',a1,a2⟩:=mm (putA m y a) (putK kvs' (KY.key y) v) (zmk_ hr' y (T.mono hs' hv'))
 unfold atD
 simp only
 rw [KY.of hv2]
 refine ⟨kvs',hp',?_,hk a y F0 H0 σ _ h' _ D a1 a2 fin⟩
 have:=Paired.length hr'
 omega
end
end L2
namespace L2
open PySem PySem.Spec PyProof.Rows
section
variable {α κ:Type} [DecidableEq κ]
theorem zmD_ (m:List (κ×α)) (k j:κ) (v:α):getA (putA m k v) j=if k=j then some v else getA m j:=by
 unfold getA putA
 by_cases ha:(m.any fun q=>decide (q.1=k))=true
 ·rw [if_pos ha]
  induction m with
  | nil=>cases ha
  | cons q m ih =>
   rw [List.map_cons,List.find?_cons,List.find?_cons]
   by_cases e:q.1=k
   ·rw [if_pos e]
    by_cases e2:k=j
    ·rw [if_pos e2]
     simp [e,e2]
    ·rw [if_neg e2]
     have:¬ q.1=j:=fun z=>e2 (by rw [← e,z])
     simp only [decide_eq_false this]
     by_cases hb:(m.any fun q=>decide (q.1=k))=true
     ·have:=ih hb
      rw [if_neg e2] at this
      exact this
     ·have e3:m.map (fun q=>if q.1=k then (q.1,v) else q)=m:=by
       rw [List.map_congr_left (g:=id) (fun x hx=>?_),List.map_id]
       have:¬ x.1=k:=fun z=>hb (List.any_eq_true.mpr ⟨x,hx,by simpa using z⟩)
       simp [this]
      rw [e3]
   ·rw [if_neg e]
    have hb:(m.any fun q=>decide (q.1=k))=true:=by
     rw [List.any_cons,decide_eq_false e,Bool.false_or] at ha; exact ha
    by_cases e2:q.1=j
    ·simp only [decide_eq_true e2]
     have:¬ k=j:=fun z=>e (by rw [e2,z])
     rw [if_neg this]
    ·simp only [decide_eq_false e2]
     exact ih hb
 ·rw [if_neg ha,List.find?_append]
  by_cases e2:k=j
  ·subst e2
   have:m.find? (fun q=>decide (q.1=k))=none:=by
    rw [List.find?_eq_none]
    intro x hx z
    exact ha (List.any_eq_true.mpr ⟨x,hx,z⟩)
   rw [this,if_pos rfl]
   simp
  ·rw [if_neg e2]
   cases m.find? (fun q=>decide (q.1=j)) with
   | some z=>rfl
   | none=>simp [e2]
theorem zm7_ (m:List (κ×α)) (k:κ) (v:α):(putA m k v).length≤m.length+1:=by
 unfold putA
 split
 ·rw [List.length_map]; omega
 ·rw [List.length_append]; exact Nat.le_refl _
end
section
variable {α:Type}
end
end L2
namespace L2
open PySem PySem.Spec PyProof.Rows
section
variable {K:PySem.W.Frag}{E:XK}
end
end L2
namespace Att
open PySem PySem.W PySem.Calls PyProof.Rows
theorem zmR_ {ns:List Int}(h:WData.layableAll [WData.list (ns.map WData.int)]=true):∀ x∈ns,Builtin.Int.intBits x≤1048576:=by
 intro x hx
 have h1:=layableW_arg h _ (List.mem_singleton.mpr rfl)
 have h2:=layableW_item h1 (.int x) (List.mem_map.mpr ⟨x,hx,rfl⟩)
 exact PyData.bits_of_layable (layable_int h2)
theorem attach_callB {l:OpenLaw}{n:Nat}{q:Program}{loose:List Str}{XP:(Str→Option Value)→Heap→Prop}{YP:World→Heap→Prop}{d:DefRec}
  (hn:l.most=some n) (hdf:d.params.defaults=[])
  (call:∀ (w:World) (s₀ s₁:Shared) (mg mb:Str→Option Value) (fa:Addr) (o:Obj) (pm cd doc:Value) (a:Addr) (vs:List Value) (ns:List Int),
   (∀ x∈ns,Builtin.Int.intBits x≤1048576) →
   Ground q loose [] XP w s₀ mg mb s₁.heap→YP w s₁.heap →
   s₁.heap.get? fa=some o→o.data=.func (docDef d.name d.params d.body d.scope pm cd doc)→s₁.heap.CodeRec cd d.name→mg d.name=some (.ref fa) →
   s₁.heap.get? a=some { cls:=.type "list",data:=.seq vs.toArray }→IntsAre vs ns→ns.length≤n→s₁.gens=#[] →
   codeAny (model l.prog w) callerA (.call (.ref fa) ⟨[.ref a],[]⟩) (fun r s'=>r=.ok (.ret (.bool true))∧OldK s₁.heap s'.heap∧s'.os=s₁.os∧AllBare s'.gens) s₁) :
  WalkO q loose XP YP l.row.toRowW d [] (fun f vs=>PySem.call f vs):=by
 intro w s₀ s₁ mg mb G Y fa o pm cd doc dV kV ho hd hcd hD hmg hg args vals as hpre hlay hrd hwl hlo
 obtain rfl:dV=.none:=Dflts.none hD hdf
 obtain rfl:kV=.none:=Dflts.noKw hD
 obtain ⟨a,vs,ns,rfl,rfl,hobj,hints,hlen⟩:=zk4_ hn hpre hwl
 refine enter_call (codeAny_mono (call w s₀ s₁ mg mb fa o pm cd doc a vs ns (zmR_ hlay) G Y ho (fd_plain hd) hcd hmg hobj hints hlen hg) fun r s' hq=>?_)
 obtain ⟨rfl,h2,h3,h4⟩:=hq
 exact ⟨.inl ⟨.bool true,.bool true,[],rfl,fun _=>rfl,.bool true,zlb_ l _,fun _=>⟨List.Pairwise.nil,fun _ hm=>(nomatch hm)⟩⟩,h2,h3,h4⟩
end Att
namespace L2
open PySem PySem.Spec PyProof.Rows
theorem zmz_ {l:PySem.W.OpenLaw}{n k:Nat}{q:Program}{loose:List Str}{XP:(Str→Option Value)→Heap→Prop}{YP:World→Heap→Prop}{d:DefRec}{K:Params→PySem.W.Frag}{CX:World→CXT}{sp:World→Sp}{x:Str}
  (hn:l.most=some n) (hn2:n≤sizeLine) (hdf:d.params.defaults=[]) (hr:Room k callerA)
  (hY:∀ (w:World) (h:Heap),YP w h→(K w.params).In h)
  (F:∀ (w:World) (mg:Str→Option Value) (fa:Addr) (h:Heap),(K w.params).In h→h.Ns mainGlobals mg→mg d.name=some (.ref fa) →
   ∃ fd:FuncData,(∀ (s:Shared) (u:Value),BindsTo s fd ⟨[u],[]⟩ [(x,u)]) ∧
    ∀ base:Heap,(K w.params).In base→base.Ns mainGlobals mg→FnOk l.prog w (K w.params) mg base (CX w) k fa fd [x] (sp w))
  (hsp:∀ (w:World) (H:Hp) (a:Addr) (ns:List Int),ns.length≤n→(∀ x∈ns,Builtin.Int.intBits x≤1048576)→Only H→SqL (K w.params) H a (ns.map V.int)→sp w [.ref a] H (fun v _=>v=.bl true) fun _ _ _=>False)
  (hCX:∀ (w:World) (H:Hp) (s:Shared) (e:Value) (s':Shared),CX w [] H s (fun _ _ _=>False) e s'→False) :
  PySem.W.WalkO q loose XP YP l.row.toRowW d [] (fun f vs=>PySem.call f vs):=by
 refine Att.attach_callB hn hdf fun w s₀ s₁ mg mb fa o pm cd doc a vs ns hbits G Y ho hd hcd hmg hobj hints hlen hg=>?_
 have KX:=hY w _ Y
 obtain ⟨fd,hb,hF⟩:=F w mg fa _ KX G.T.g hmg
 exact zmW_ KX G.T.g G.T.b G.T.builtins G.T.nolimit hg hobj hints (Nat.le_trans hlen hn2) hr hF hb (fun H hO hS=>hsp w H a ns hlen hbits hO hS) fun H e s'=>hCX w H s₁ e s'
noncomputable abbrev BitsOk (ns:List Int):Prop:=∀ x∈ns,Builtin.Int.intBits x≤1048576
end L2
namespace L2
open PySem PySem.Spec PyProof.Rows PySem.W
section
variable {α β:Type}
noncomputable def okT (lt:Nat→Nat→Bool) (n:Nat):KasT α→(α→Prop)→Prop
 | .ret a,P=>P a
 | .ask i j k,P=>i<n∧j<n∧okT lt n (k (lt i j)) P
variable {lt:Nat→Nat→Bool}{n:Nat}
theorem zei_ {f:α→KasT β}{P:β→Prop}:∀ (t:KasT α),okT lt n t (fun a=>okT lt n (f a) P)→okT lt n (t.bind f) P
 | .ret _,h=>h
 | .ask i j k,h=>⟨h.1,h.2.1,zei_ (k (lt i j)) h.2.2⟩
theorem zcI_ {P Q:α→Prop}(hq:∀ a,P a→Q a):∀ (t:KasT α),okT lt n t P→okT lt n t Q
 | .ret _,h=>hq _ h
 | .ask i j k,h=>⟨h.1,h.2.1,zcI_ hq (k (lt i j)) h.2.2⟩
theorem zoi_ {prog:Program}{w:World}{A:Around}{κ:SortKind}{vs:List Value}{s:Shared}{P:α→Prop}{Q:α→Shared→Prop}
  (cm:∀ i j (C:Bool→Shared→Prop),i<n→j<n→C (lt i j) s→kas_ask prog w A κ vs i j C s) (hq:∀ a,P a→Q a s):∀ t:KasT α,okT lt n t P→t.kasWp (kas_ask prog w A κ vs) Q s
 | .ret a,h=>hq a h
 | .ask i j k,h=>cm i j (fun b s'=>(k b).kasWp (kas_ask prog w A κ vs) Q s') h.1 h.2.1 (zoi_ cm hq (k (lt i j)) h.2.2)
structure WOr (lt:Nat→Nat→Bool):Prop where
 asym:∀ {a b},lt a b=true→lt b a=false
 tr:∀ {a b c},lt b a=false→lt c b=false→lt c a=false
noncomputable abbrev le (lt:Nat→Nat→Bool) (a b:Nat):Prop:=lt b a=false
theorem WOr.refl (w:WOr lt) (a:Nat):le lt a a:=by
 cases h:lt a a with
 | false=>exact h
 | true=>exact w.asym h
noncomputable abbrev Pm (p:Array Nat) (n:Nat):Prop:=p.toList.Perm (List.range n)
theorem zfh_ {p:Array Nat}(h:Pm p n):p.size=n:=by have:=h.length_eq; rwa [List.length_range,Array.length_toList] at this
theorem zkO_ {p:Array Nat}(h:Pm p n) {i:Nat}(hi:i<n):p.getD i 0<n:=by
 have hs:=zfh_ h
 have:p.getD i 0=p[i]'(by omega):=by simp [Array.getD,hs,hi]
 rw [this]
 exact List.mem_range.mp (h.mem_iff.mp (by simp))
theorem zc6_ {p q:Array Nat}{i j:Nat}(h:p[i]?=q[j]?):p.getD i 0=q.getD j 0:=by
 rw [Array.getD_eq_getD_getElem?,Array.getD_eq_getD_getElem?,h]
theorem zkn_ {p:Array Nat}(h:Pm p n) (i j:Nat):Pm (kas_rev p i j) n:=(Array.perm_iff_toList_perm.mp (mirror_perm p i j _)).trans h
theorem zgZ_ {p:Array Nat}{i j:Nat}(hj:j≤p.size) (k:Nat):(kas_rev p i j).getD k 0=if i≤k∧k<j then p.getD (i+j-1-k) 0 else p.getD k 0:=by
 have:=getElem?_mirror_all (xs:=p) (i:=i) hj k
 split
 ·rename_i q; rw [if_pos q] at this; exact zc6_ this
 ·rename_i q; rw [if_neg q] at this; exact zc6_ this
noncomputable def Asc (lt:Nat→Nat→Bool) (p:Array Nat) (k:Nat):Prop:=∀ i j,i≤j→j<k→le lt (p.getD i 0) (p.getD j 0)
noncomputable def Dsc (lt:Nat→Nat→Bool) (p:Array Nat) (k:Nat):Prop:=∀ i j,i≤j→j<k→le lt (p.getD j 0) (p.getD i 0)
theorem Asc.one (w:WOr lt) (p:Array Nat):Asc lt p 1:=fun i j a b=>by
 obtain rfl:i=j:=by omega
 exact w.refl _
theorem znz_ (w:WOr lt) {p:Array Nat}(hp:Pm p n):∀ (f m:Nat),1≤m→m+f≤n→Asc lt p m→okT lt n (kas_asc p f m) (fun r=>m≤r∧r≤m+f∧Asc lt p r∧(r<m+f→lt (p.getD r 0) (p.getD (r-1) 0)=true))
 | 0,m,h1,hm,ha=>⟨Nat.le_refl _,Nat.le_refl _,ha,fun h=>absurd h (Nat.lt_irrefl _)⟩
 | f+1,m,h1,hm,ha=>by
  refine ⟨zkO_ hp (by omega),zkO_ hp (by omega),?_⟩
  show okT lt n (if lt (p.getD m 0) (p.getD (m-1) 0)=true then KasT.ret m else kas_asc p f (m+1)) _
  cases h:lt (p.getD m 0) (p.getD (m-1) 0) with
  | true=>rw [if_pos rfl]; exact ⟨Nat.le_refl _,by omega,ha,fun _=>h⟩
  | false =>
   rw [if_neg (by decide)]
   refine zcI_ (fun r q=>⟨by omega,by omega,q.2.2.1,fun z=>q.2.2.2 (by omega)⟩) _ (znz_ w hp f (m+1) (by omega) (by omega) fun i j hij hj=>?_)
   by_cases e:j<m
   ·exact ha i j hij e
   ·obtain rfl:j=m:=by omega
    by_cases e2:i=j
    ·subst e2; exact w.refl _
    ·exact w.tr (ha i (j-1) (by omega) (by omega)) h
theorem zou_ (w:WOr lt) {p:Array Nat}{m q:Nat}(hm:m≤p.size) (hq:q+1≤m) (hd:Dsc lt p m) (he:∀ i,m-(q+1)≤i→i<m→le lt (p.getD i 0) (p.getD (m-1) 0)):Dsc lt (kas_rev p (m-(q+1)) m) m:=by
 intro i j hij hj
 have r1:=zgZ_ (p:=p) (i:=m-(q+1)) hm i
 have r2:=zgZ_ (p:=p) (i:=m-(q+1)) hm j
 show lt _ _=false
 rw [r1,r2]
 by_cases a:m-(q+1)≤i
 ·rw [if_pos ⟨a,by omega⟩,if_pos ⟨by omega,hj⟩]
  exact w.tr (he _ (by omega) (by omega)) (hd _ (m-1) (by omega) (by omega))
 ·rw [if_neg (fun z=>a z.1)]
  by_cases b:m-(q+1)≤j
  ·rw [if_pos ⟨b,hj⟩]; exact hd _ _ (by omega) (by omega)
  ·rw [if_neg (fun z=>b z.1)]; exact hd _ _ hij hj
theorem zjD_ (w:WOr lt):∀ (f:Nat) (p:Array Nat) (m q:Nat),Pm p n→q+1≤m→m+f≤n→Dsc lt p m→(∀ i,m-(q+1)≤i→i<m→le lt (p.getD i 0) (p.getD (m-1) 0)) →
  okT lt n (kas_desc f p m q) (fun r=>Pm r.1 n∧r.2.2+1≤r.2.1∧r.2.1≤m+f∧Dsc lt r.1 r.2.1∧∀ i,r.2.1-(r.2.2+1)≤i→i<r.2.1→le lt (r.1.getD i 0) (r.1.getD (r.2.1-1) 0))
 | 0,p,m,q,hp,h1,hm,hd,he=>⟨hp,h1,Nat.le_refl _,hd,he⟩
 | f+1,p,m,q,hp,h1,hm,hd,he=>by
  have hsz:=zfh_ hp
  refine ⟨zkO_ hp (by omega),zkO_ hp (by omega),?_⟩
  cases h:lt (p.getD m 0) (p.getD (m-1) 0) with
  | true =>
   dsimp only
   rw [if_pos rfl]
   have fin:∀ p1:Array Nat,Pm p1 n→Dsc lt p1 m→p1.getD m 0=p.getD m 0→(∀ i,i<m→le lt (p.getD (m-1) 0) (p1.getD i 0))→okT lt n (kas_desc f p1 (m+1) 0) (fun r=>Pm r.1 n∧r.2.2+1≤r.2.1∧r.2.1≤m+(f+1)∧Dsc lt r.1 r.2.1∧∀ i,r.2.1-(r.2.2+1)≤i→i<r.2.1→le lt (r.1.getD i 0) (r.1.getD (r.2.1-1) 0)):=by
    intro p1 hp1 hd1 e1 hb
    refine zcI_ (fun r q=>⟨q.1,q.2.1,by omega,q.2.2.2⟩) _ (zjD_ w f p1 (m+1) 0 hp1 (by omega) (by omega) (fun i j hij hj=>?_) fun i a b=>?_)
    ·by_cases e:j<m
     ·exact hd1 i j hij e
     ·obtain rfl:j=m:=by omega
      by_cases e2:i=j
      ·subst e2; exact w.refl _
      ·rw [e1]; exact w.tr (w.asym h) (hb i (by omega))
    ·obtain rfl:i=m:=by omega
     exact w.refl _
   by_cases hq:q > 0
   ·rw [if_pos hq]
    refine fin _ (zkn_ hp _ _) (zou_ w (by omega) h1 hd he) ?_ fun i hi=>?_
    ·rw [zgZ_ (by omega),if_neg (by omega)]
    ·rw [zgZ_ (by omega)]
     split
     ·exact hd _ _ (by omega) (by omega)
     ·exact hd _ _ (by omega) (by omega)
   ·rw [if_neg hq]
    exact fin p hp hd rfl fun i hi=>hd _ _ (by omega) (by omega)
  | false =>
   dsimp only
   rw [if_neg (by decide)]
   refine ⟨zkO_ hp (by omega),zkO_ hp (by omega),?_⟩
   cases h2:lt (p.getD (m-1) 0) (p.getD m 0) with
   | true=>dsimp only; rw [if_pos rfl]; exact ⟨hp,h1,by show m≤m+(f+1); omega,hd,he⟩
   | false =>
    dsimp only
    rw [if_neg (by decide)]
    refine zcI_ (fun r q=>⟨q.1,q.2.1,by omega,q.2.2.2⟩) _ (zjD_ w f p (m+1) (q+1) hp (by omega) (by omega) (fun i j hij hj=>?_) fun i a b=>?_)
    ·by_cases e:j<m
     ·exact hd i j hij e
     ·obtain rfl:j=m:=by omega
      by_cases e2:i=j
      ·subst e2; exact w.refl _
      ·exact w.tr h2 (hd i (j-1) (by omega) (by omega))
    ·show le lt (p.getD i 0) (p.getD m 0)
     by_cases e:i=m
     ·subst e; exact w.refl _
     ·exact w.tr (he i (by omega) (by omega)) h
noncomputable abbrev Got (lt:Nat→Nat→Bool) (n:Nat) (r:Nat×Array Nat):Prop:=Pm r.2 n∧r.1≤n∧Asc lt r.2 r.1
theorem zkt_ (w:WOr lt) {p:Array Nat}{m:Nat}(hp:Pm p n) (h1:1≤m) (hm:m≤n) (hd:Dsc lt p m):okT lt n (kas_tail3 m n p) (Got lt n):=by
 have hsz:=zfh_ hp
 refine zei_ _ (zcI_ (fun r q=>?_) _ (znz_ w (zkn_ hp 0 m) (n-m) m h1 (by omega) fun i j hij hj=>?_))
 ·exact ⟨zkn_ hp 0 m,by show r≤n; omega,q.2.2.1⟩
 ·rw [zgZ_ (by omega),zgZ_ (by omega),if_pos (by omega),if_pos (by omega)]
  exact hd _ _ (by omega) (by omega)
theorem zfU_ (w:WOr lt) {p:Array Nat}{m:Nat}(hp:Pm p n) (hm:m+1≤n) (hd:Dsc lt p (m+1)):okT lt n (kas_descPart m n p) (Got lt n):=by
 refine zei_ _ (zcI_ (fun r q=>?_) _ (zjD_ w (n-(m+1)) p (m+1) 0 hp (by omega) (by omega) hd fun i a b=>?_))
 ·obtain ⟨q1,q2,q3,q4,q5⟩:=q
  have hsz:=zfh_ q1
  by_cases z:r.2.2 > 0
  ·rw [if_pos z]
   exact zkt_ w (zkn_ q1 _ _) (by omega) (by omega) (zou_ w (by omega) q2 q4 q5)
  ·rw [if_neg z]
   exact zkt_ w q1 (by omega) (by omega) q4
 ·obtain rfl:i=m:=by omega
  exact w.refl _
theorem znr_ (w:WOr lt) {p:Array Nat}(hp:Pm p n) (hn:1≤n):okT lt n (kas_count n p) (Got lt n):=by
 have hsz:=zfh_ hp
 refine zei_ _ (zcI_ (fun m q=>?_) _ (znz_ w hp (n-1) 1 (Nat.le_refl _) (by omega) (Asc.one w p)))
 obtain ⟨q1,q2,q3,q4⟩:=q
 by_cases e:m=n
 ·rw [if_pos (by simp [e])]; exact ⟨hp,by show m≤n; omega,q3⟩
 ·rw [if_neg (by simp [e])]
  have hl:=q4 (by omega)
  by_cases z:m > 1
  ·rw [if_pos z]
   refine ⟨zkO_ hp (by omega),zkO_ hp (by omega),?_⟩
   cases c:lt (p.getD 0 0) (p.getD (m-1) 0) with
   | true=>dsimp only; rw [if_pos rfl]; exact ⟨hp,by show m≤n; omega,q3⟩
   | false =>
    dsimp only
    rw [if_neg (by decide)]
    have hall:∀ a b,a<m→b<m→le lt (p.getD a 0) (p.getD b 0):=fun a b ha hb=>w.tr (w.tr (q3 a (m-1) (by omega) (by omega)) c) (q3 0 b (by omega) hb)
    refine zfU_ w (zkn_ hp 0 m) (by omega) fun i j hij hj=>?_
    rw [zgZ_ (by omega),zgZ_ (by omega)]
    by_cases a:j<m
    ·rw [if_pos (by omega),if_pos (by omega)]; exact hall _ _ (by omega) (by omega)
    ·obtain rfl:j=m:=by omega
     rw [if_neg (by omega)]
     by_cases b:i<j
     ·rw [if_pos (by omega)]; exact w.tr (w.asym hl) (hall _ _ (by omega) (by omega))
     ·obtain rfl:i=j:=by omega
      rw [if_neg (by omega)]; exact w.refl _
  ·rw [if_neg z]
   obtain rfl:m=1:=by omega
   refine zfU_ w hp (by omega) fun i j hij hj=>?_
   by_cases a:i=j
   ·subst a; exact w.refl _
   ·obtain rfl:i=0:=by omega
    obtain rfl:j=1:=by omega
    exact w.asym hl
theorem zh1_ (w:WOr lt) {p:Array Nat}{k:Nat}(hp:Pm p n) (hk:k<n) (ha:Asc lt p k):∀ (f l r:Nat),l≤r→r≤k→r-l≤f→(∀ i,i<l→le lt (p.getD i 0) (p.getD k 0))→(∀ i,r≤i→i<k→le lt (p.getD k 0) (p.getD i 0)) →
  okT lt n (kas_place p k f l r) (fun m=>m≤k∧(∀ i,i<m→le lt (p.getD i 0) (p.getD k 0))∧∀ i,m≤i→i<k→le lt (p.getD k 0) (p.getD i 0))
 | 0,l,r,h1,h2,h3,h4,h5=>⟨by show l≤k; omega,h4,fun i a b=>h5 i (by omega) b⟩
 | f+1,l,r,h1,h2,h3,h4,h5=>by
  unfold kas_place
  by_cases e:l ≥ r
  ·rw [if_pos e]; exact ⟨by show l≤k; omega,h4,fun i a b=>h5 i (by omega) b⟩
  ·rw [if_neg e]
   refine ⟨zkO_ hp hk,zkO_ hp (by omega),?_⟩
   cases c:lt (p.getD k 0) (p.getD ((l+r) / 2) 0) with
   | true =>
    dsimp only
    rw [if_pos rfl]
    refine zh1_ w hp hk ha f l ((l+r) / 2) (by omega) (by omega) (by omega) h4 fun i a b=>?_
    exact w.tr (w.asym c) (ha _ _ a b)
   | false =>
    dsimp only
    rw [if_neg (by decide)]
    refine zh1_ w hp hk ha f ((l+r) / 2+1) r (by omega) h2 (by omega) (fun i hi=>?_) h5
    exact w.tr (ha i ((l+r) / 2) (by omega) (by omega)) c
theorem zn1_ (w:WOr lt):∀ (f:Nat) (p:Array Nat) (k:Nat),Pm p n→k+f=n→Asc lt p k→okT lt n (kas_bin f p k) (fun r=>Pm r n∧Asc lt r n)
 | 0,p,k,hp,hk,ha=>⟨hp,(show k=n by omega) ▸ ha⟩
 | f+1,p,k,hp,hk,ha=>by
  have hsz:=zfh_ hp
  refine zei_ _ (zcI_ (fun l q=>?_) _ (zh1_ w hp (by omega) ha k 0 k (by omega) (Nat.le_refl _) (by omega) (fun i hi=>absurd hi (by omega)) fun i a b=>absurd b (by omega)))
  obtain ⟨q1,q2,q3⟩:=q
  have hb:∀ i,(bubble p k (k-l)).getD i 0=if i=l then p.getD k 0 else if l<i∧i≤k then p.getD (i-1) 0 else p.getD i 0:=fun i=>by
   have:=getElem?_bubble (xs:=p) (src:=k) (by omega) (k-l) (by omega) i
   rw [show k-(k-l)=l by omega] at this
   split
   ·rename_i z; rw [if_pos z] at this; exact zc6_ this
   ·rename_i z
    rw [if_neg z] at this
    split
    ·rename_i y; rw [if_pos y] at this; exact zc6_ this
    ·rename_i y; rw [if_neg y] at this; exact zc6_ this
  refine zn1_ w f _ (k+1) ((Array.perm_iff_toList_perm.mp (bubble_perm p k _)).trans hp) (by omega) fun i j hij hj=>?_
  rw [hb,hb]
  by_cases e1:i=l
  ·rw [if_pos e1]
   by_cases e2:j=l
   ·rw [if_pos e2]; exact w.refl _
   ·rw [if_neg e2,if_pos (by omega)]; exact q3 _ (by omega) (by omega)
  ·rw [if_neg e1]
   by_cases e2:j=l
   ·rw [if_pos e2,if_neg (by omega)]; exact q2 _ (by omega)
   ·rw [if_neg e2]
    by_cases e3:l<i
    ·rw [if_pos (by omega),if_pos (by omega)]; exact ha _ _ (by omega) (by omega)
    ·rw [if_neg (by omega)]
     by_cases e4:l<j
     ·rw [if_pos (by omega)]; exact ha _ _ (by omega) (by omega)
     ·rw [if_neg (by omega)]; exact ha _ _ hij (by omega)
theorem zox_ (w:WOr lt) (hn:1≤n):okT lt n (kas_sort n) (fun r=>Pm r n∧Asc lt r n):=by
 have h0:Pm (List.toArray (List.range n)) n:=by simp [Pm]
 refine zei_ _ (zcI_ (fun r q=>?_) _ (znr_ w h0 hn))
 obtain ⟨q1,q2,q3⟩:=q
 by_cases e:r.1<n
 ·rw [if_pos e]
  refine zn1_ w _ _ _ q1 (by omega) ?_
  by_cases e1:r.1=0
  ·rw [e1]; exact Asc.one w _
  ·rw [Nat.max_eq_left (by omega)]; exact q3
 ·rw [if_neg e]
  obtain e:r.1=n:=by omega
  rw [e] at q3
  exact ⟨q1,q3⟩
end
section
variable {prog:Program}{w:World}{A:Around}{E:Value→Shared→Prop}{s:Shared}{vs:List Value}{lt:Nat→Nat→Bool}
noncomputable def CmpAt (prog:Program) (w:World) (vs:List Value) (lt:Nat→Nat→Bool) (s:Shared):Prop :=
 ∃ κ,(∀ (A:Around) (C:SortKind→Shared→Prop),C κ s→wpAny (model prog w) A (keyKind' vs.toArray) C (fun _ _=>False) s) ∧
  ∀ (A:Around) i j (C:Bool→Shared→Prop),i<vs.length→j<vs.length→C (lt i j) s→kas_ask prog w A κ vs i j C s
noncomputable def Srtd (lt:Nat→Nat→Bool) (n:Nat) (p:List Nat):Prop:=p.Perm (List.range n)∧p.Pairwise (le lt)
theorem zo9_ {n:Nat}{p:Array Nat}(h:Pm p n∧Asc lt p n):Srtd lt n p.toList:=by
 refine ⟨h.1,List.pairwise_iff_getElem.mpr fun i j hi hj hij=>?_⟩
 have hs:=zfh_ h.1
 rw [Array.length_toList] at hi hj
 have:=h.2 i j (by omega) (by omega)
 have e:∀ k (hk:k<p.size),p.getD k 0=p.toList[k]'(by simpa using hk):=fun k hk=>by simp [Array.getD,hk]
 rwa [e i hi,e j hj] at this
theorem zjX_ {a:Addr}{n:Nat}{P:PySem.Fin→Shared→Prop}(ho:s.heap.get? a=some (seqObj "list" vs.toArray n)) (h64:vs.length<64) (wo:WOr lt)
  (kk:2≤vs.length→∀ h':Heap,(∀ b o,b≠a→s.heap.get? b=some o→h'.get? b=some o)→CmpAt prog w vs lt { s with heap:=h' })
  (q:∀ (h':Heap) c (p:List Nat),(∀ b o,b≠a→s.heap.get? b=some o→h'.get? b=some o)→Srtd lt vs.length p→h'.get? a=some (seqObj "list" (p.map fun i=>vs.getD i Value.none).toArray c)→P (.done (.ret .none)) { s with heap:=h' }) :
  wpAny (model prog w) A (Builtin.«list.sort» ⟨[.ref a],[]⟩) P E s:=by
 have ha:a<s.heap.objs.size:=Heap.lt_size ho
 have s1:=Heap.SameBut.update s.heap a (Obj.mapSeq fun _=>(#[]:Array Value))
 obtain ⟨e1,ho1⟩:∃ e1,(s.heap.update a (Obj.mapSeq fun _=>(#[]:Array Value))).get? a=some (seqObj "list" #[] e1):=⟨_,get?_update_seq ho fun _=>#[]⟩
 have kp:∀ b o,b≠a→s.heap.get? b=some o→(((s.heap.update a (Obj.mapSeq fun _=>(#[]:Array Value))).push (seqObj "tuple" vs.toArray 0)).push (seqObj "list" #[] 0)).get? b=some o:=fun b o hb e =>
  Heap.get?_push_of_some _ (Heap.get?_push_of_some _ ((s1.2 b hb).trans e))
 have na:(((s.heap.update a (Obj.mapSeq fun _=>(#[]:Array Value))).push (seqObj "tuple" vs.toArray 0)).push (seqObj "list" #[] 0)).get? a=some (seqObj "list" #[] e1):=Heap.get?_push_of_some _ (Heap.get?_push_of_some _ ho1)
 rw [list_sort_plain]
 refine wpAny_bind (listItems_at ho rfl ?_)
 refine wpAny_bind (listUpdate_at ho rfl ?_ (by rw [List.size_toArray,sizeLine_eq]; omega) (Nat.zero_le _))
 refine wpAny_bind (seqEpoch_at ho1 rfl ?_)
 refine wpAny_bind (wpAny_newTuple ?_ (by show vs.length≤_; rw [sizeLine_eq]; omega))
 refine wpAny_bind (wpAny_newList ?_ (Nat.zero_le _))
 refine wpAny_holding ?_
 show wpAny (model prog w) A _ P E { s with heap:=((s.heap.update a (Obj.mapSeq fun _=>(#[]:Array Value))).push (seqObj "tuple" vs.toArray 0)).push (seqObj "list" #[] 0) }
 generalize hh:((s.heap.update a (Obj.mapSeq fun _=>(#[]:Array Value))).push (seqObj "tuple" vs.toArray 0)).push (seqObj "list" #[] 0)=h2 at kp na
 dsimp only
 have fin:∀ (st':SortSt) (p:List Nat),(arrOf st').map (·.2)=(p.map fun i=>vs.getD i Value.none).toArray→failedOf st'=none→Srtd lt vs.length p→wpAny (model prog w) A (do
   let touched:=(← seqEpoch a) != e1
   Builtin.List.listUpdate (.ref a) fun _=>(arrOf st').map (·.2)
   if let some e:=failedOf st' then rule "list.sort.comparison-raised"; throw e
   if touched then rule "list.sort.modified"; raiseError "ValueError" "list modified during sort"
   ret .none) P E { s with heap:=h2 }:=by
  intro st' p hout hf hp
  rw [hout,hf]
  have hsz:(List.toArray (p.map fun i=>vs.getD i Value.none)).size=vs.length:=by rw [List.size_toArray,List.length_map,hp.1.length_eq,List.length_range]
  have s2:=Heap.SameBut.update h2 a (Obj.mapSeq fun _=>List.toArray (p.map fun i=>vs.getD i Value.none))
  obtain ⟨c2,hc2⟩:∃ c2,(h2.update a (Obj.mapSeq fun _=>List.toArray (p.map fun i=>vs.getD i Value.none))).get? a=some (seqObj "list" (List.toArray (p.map fun i=>vs.getD i Value.none)) c2):=⟨_,get?_update_seq na fun _=>List.toArray (p.map fun i=>vs.getD i Value.none)⟩
  refine wpAny_bind (seqEpoch_at (s:={ s with heap:=h2 }) na rfl ?_)
  refine wpAny_bind (listUpdate_at (s:={ s with heap:=h2 }) na rfl ?_ (Nat.zero_le _) (Nat.le_trans (Nat.le_of_eq hsz) (by rw [sizeLine_eq]; omega)))
  simp only [bne_self_eq_false,Bool.false_eq_true,if_false]
  exact wpAny_pure (q _ c2 p (fun b o hb e=>(s2.2 b hb).trans (kp b o hb e)) hp hc2)
 by_cases hn2:2≤vs.length
 ·have hn2':¬ vs.toArray.size<2:=by rw [List.size_toArray]; omega
  rw [if_neg hn2',if_neg hn2']
  obtain ⟨κ,k1,k2⟩:=kk hn2 h2 kp
  refine wpAny_bind (wpAny_mono (k1 A (fun κ' s'=>κ'=κ∧s'={ s with heap:=h2 }) ⟨rfl,rfl⟩) (fun κ' s0 hk=>?_) fun _ _ x=>x.elim)
  obtain ⟨rfl,rfl⟩:=hk
  refine wpAny_bind (wpAny_mono (kat_run (Q:=fun st' s'=>s'={ s with heap:=h2 }∧∃ p:Array Nat,p.size=vs.length∧arrOf st'=p.map (kas_item (vs.toArray.zip vs.toArray))∧failedOf st'=none∧(Pm p vs.length∧Asc lt p vs.length)) (G:=fun p s'=>s'={ s with heap:=h2 }∧(Pm p vs.length∧Asc lt p vs.length))
   rfl hn2 h64 (fun p' st' s' a1 a2 a3 a4=>⟨a4.1,p',a1,a2,a3,a4.2⟩) (zoi_ (P:=fun r=>Pm r vs.length∧Asc lt r vs.length) (fun i j C hi hj hc=>k2 A i j C hi hj hc) (fun p hp=>⟨rfl,hp⟩) _ (zox_ wo (by omega)))) ?_ fun _ _ e=>e)
  rintro ⟨⟨⟩,st'⟩ s' ⟨rfl,p,hp,har,hf,hpp⟩
  exact fin st' p.toList (kat_snds rfl har) hf (zo9_ hpp)
 ·have hn2':vs.toArray.size<2:=by rw [List.size_toArray]; omega
  rw [if_pos hn2',if_pos hn2']
  refine wpAny_bind (wpAny_pure ?_)
  refine wpAny_bind (wpAny_pure ?_)
  refine fin _ (List.range vs.length) ?_ rfl ⟨List.Perm.refl _,?_⟩
  ·show ((vs.toArray.zip vs.toArray).map (·.2))=_
   apply Array.toList_inj.mp
   rw [Array.toList_map,Array.toList_zip]
   have e:∀ l:List Value,(l.zip l).map (·.2)=l:=fun l=>by
    induction l with
    | nil=>rfl
    | cons x l ih=>rw [List.zip_cons_cons,List.map_cons,ih]
   show (vs.zip vs).map (·.2)=(List.range vs.length).map fun i=>vs.getD i Value.none
   rw [e]
   apply List.ext_getElem?
   intro i
   by_cases hi:i<vs.length
   ·simp [hi]
   ·simp [List.getElem?_eq_none,hi,Nat.le_of_not_lt hi]
  ·rcases (show vs.length=0∨vs.length=1 by omega) with e | e
   ·rw [e]; exact .nil
   ·rw [e]; exact List.pairwise_singleton _ _
theorem zno_ {l:Addr}{Q:Value→Shared→Prop}(hl:s.heap.IsList l vs.toArray) (h64:vs.length<64) (wo:WOr lt)
  (kk:2≤vs.length→∀ h':Heap,(∀ b o,s.heap.get? b=some o→h'.get? b=some o)→CmpAt prog w vs lt { s with heap:=h' })
  (q:∀ (h':Heap) c (p:List Nat),(∀ b o,s.heap.get? b=some o→h'.get? b=some o)→Srtd lt vs.length p→h'.get? (s.heap.objs.size+1)=some (seqObj "list" (p.map fun i=>vs.getD i Value.none).toArray c)→Q (.ref (s.heap.objs.size+1)) { s with heap:=h' }) :
  wpAny (model prog w) A (call (.builtin "sorted") [.ref l]) Q E s:=by
 refine Calls.call_function_entry kind_sorted plain_sorted entry_sorted (args_sorted1 _) ?_
 unfold Builtin.«sorted»
 refine wpAny_bind (m:=checkCount "sorted" 1 1 _) (wpAny_pure ?_)
 refine wpAny_bind (collect_list hl ?_ (by rw [sizeLine_eq]; omega))
 refine wpAny_bind (wpAny_newList ?_ (by rw [sizeLine_eq]; omega))
 have hsz:((s.heap.push (seqObj "list" #[] 0)).update s.heap.objs.size (Obj.mapSeq (·++vs.toArray))).objs.size=s.heap.objs.size+1:=by
  rw [Heap.size_update,size_push']
 have hoL:(((s.heap.push (seqObj "list" #[] 0)).update s.heap.objs.size (Obj.mapSeq (·++vs.toArray))).push (seqObj "list" vs.toArray 0)).get? (s.heap.objs.size+1)=some (seqObj "list" vs.toArray 0):=by
  rw [← hsz]; exact Heap.get?_push_size _ rfl
 have keep:∀ b o,s.heap.get? b=some o→(((s.heap.push (seqObj "list" #[] 0)).update s.heap.objs.size (Obj.mapSeq (·++vs.toArray))).push (seqObj "list" vs.toArray 0)).get? b=some o:=fun b o q=>by
  have hlt:b<s.heap.objs.size:=Heap.lt_size q
  rw [Heap.get?_push_ne _ _ _ (by rw [hsz]; exact Nat.ne_of_lt (Nat.lt_succ_of_lt hlt)),Heap.get?_update_ne _ _ _ _ (Nat.ne_of_lt hlt),Heap.get?_push_ne _ _ _ (Nat.ne_of_lt hlt)]
  exact q
 show wpAny _ _ _ _ _ { s with heap:=((s.heap.push (seqObj "list" #[] 0)).update s.heap.objs.size (Obj.mapSeq (·++vs.toArray))).push (seqObj "list" vs.toArray 0) }
 rw [hsz]
 have keep2:∀ (h':Heap),(∀ b o,b≠s.heap.objs.size+1→(((s.heap.push (seqObj "list" #[] 0)).update s.heap.objs.size (Obj.mapSeq (·++vs.toArray))).push (seqObj "list" vs.toArray 0)).get? b=some o→h'.get? b=some o)→∀ b o,s.heap.get? b=some o→h'.get? b=some o:=fun h' hk b o e =>
  hk b o (Nat.ne_of_lt (Nat.lt_succ_of_lt (Heap.lt_size e))) (keep b o e)
 refine wpAny_bind (wpAny_holding (wpAny_call_entry slot_list_sort ⟨_,hoL,rfl⟩ entry_list_sort ?body (args_list_sort _)))
 case body =>
  refine zjX_ (s:={ s with heap:=((s.heap.push (seqObj "list" #[] 0)).update s.heap.objs.size (Obj.mapSeq (·++vs.toArray))).push (seqObj "list" vs.toArray 0) }) hoL h64 wo (fun h2 h' hk=>kk h2 h' (keep2 h' hk)) fun h' c p hk hp ho'=>?_
  exact ⟨_,rfl,wpAny_pure ⟨_,rfl,q h' c p (keep2 h' hk) hp ho'⟩⟩
end
end L2
namespace L2
open PySem PySem.Spec PyProof.Rows PySem.W
noncomputable def knd:V→Nat | .int _=>1 | .str _=>2 | _=>0
noncomputable def ltF:V→V→Bool | .int a,.int b=>decide (a<b) | .str a,.str b=>decide (a.cps.toList<b.cps.toList) | _,_=>false
noncomputable def eqF:V→V→Bool | .int a,.int b=>a == b | .str a,.str b=>decide (a=b) | _,_=>false
noncomputable def lexV:List V→List V→Bool
 | x::xs,y::ys=>if eqF x y then lexV xs ys else ltF x y
 | _,_=>false
section
variable {prog:Program}{w:World}{A:Around}{E:Value→Shared→Prop}{s:Shared}{Q:Bool→Shared→Prop}
theorem zcJ_ {x:V}(h:knd x≠0):(∃ i,x=.int i)∨∃ z,x=.str z:=by
 cases x<;>first | exact .inl ⟨_,rfl⟩ | exact .inr ⟨_,rfl⟩ | exact absurd rfl h
theorem ziV_ {x y:V}{u v:Value}{b:Bool}(hx:RelV x u) (hy:RelV y v) (hk:knd x=knd y) (h0:knd x≠0) (q:Q (ltF x y) s):wpAny (model prog w) A (oneLt' b u v) Q E s:=by
 rcases zcJ_ h0 with ⟨i,rfl⟩ | ⟨z,rfl⟩
 ·rcases zcJ_ (x:=y) (fun e=>h0 (hk.trans e)) with ⟨j,rfl⟩ | ⟨z,rfl⟩
  ·obtain ⟨t,rfl⟩:=hx
   obtain ⟨t',rfl⟩:=hy
   cases b with
   | true=>exact oneLt_int q
   | false=>exact kat_one _ _ (PyProof.Rows.lt_int q)
  ·cases hk
 ·rcases zcJ_ (x:=y) (fun e=>h0 (hk.trans e)) with ⟨j,rfl⟩ | ⟨z',rfl⟩
  ·cases hk
  ·obtain ⟨t,rfl⟩:=hx
   obtain ⟨t',rfl⟩:=hy
   cases b with
   | true=>exact oneLt_str q
   | false=>exact kat_one _ _ (PyProof.Rows.lt_str q)
theorem eq_F {x y:V}{u v:Value}(hx:RelV x u) (hy:RelV y v) (hk:knd x=knd y) (h0:knd x≠0) (q:Q (eqF x y) s):wpAny (model prog w) A (eqBool u v) Q E s:=by
 rcases zcJ_ h0 with ⟨i,rfl⟩ | ⟨z,rfl⟩
 ·rcases zcJ_ (x:=y) (fun e=>h0 (hk.trans e)) with ⟨j,rfl⟩ | ⟨z,rfl⟩
  ·obtain ⟨t,rfl⟩:=hx
   obtain ⟨t',rfl⟩:=hy
   exact wpAny_eqBool_int q
  ·cases hk
 ·rcases zcJ_ (x:=y) (fun e=>h0 (hk.trans e)) with ⟨j,rfl⟩ | ⟨z',rfl⟩
  ·cases hk
  ·obtain ⟨t,rfl⟩:=hx
   obtain ⟨t',rfl⟩:=hy
   exact wpAny_eqBool_str q
theorem zku_ {b:Bool}:∀ {xs ys:List V}{us vs:List Value}(i:Nat),Vals xs us→Vals ys vs→xs.map knd=ys.map knd→(0:Nat)∉xs.map knd→Q (lexV xs ys) s→KatLex prog w A b false Q (us.zip vs) i s
 | [],[],_,_,i,.nil,.nil,_,_,q=>q
 | x::xs,[],_,_,i,_,_,hk,_,_=>by simp at hk
 | [],x::xs,_,_,i,_,_,hk,_,_=>by simp at hk
 | x::xs,y::ys,_,_,i,.cons hx r,.cons hy r',hk,h0,q=>by
  rw [List.map_cons,List.map_cons] at hk
  injection hk with k1 k2
  rw [List.map_cons] at h0
  have z1:knd x≠0:=fun e=>h0 (by rw [e]; exact List.mem_cons_self ..)
  have z2:(0:Nat)∉xs.map knd:=fun e=>h0 (List.mem_cons_of_mem _ e)
  rw [List.zip_cons_cons]
  refine kat_cons (eq_F hx hy k1 z1 (kat_go (fun e=>kat_yes ?_) fun e=>kat_no ?_))
  ·refine zku_ (i+1) r r' k2 z2 ?_
   unfold lexV at q
   rw [e,if_pos rfl] at q
   exact q
  ·refine ziV_ hx hy k1 z1 ?_
   unfold lexV at q
   rw [e,if_neg (by decide)] at q
   exact q
end
noncomputable def SrtV (K:PySem.W.Frag) (H:Hp) (ys:List V) (lt:Nat→Nat→Bool):Prop :=
 (∃ k,k≠0∧(∀ y∈ys,knd y=k)∧∀ i j x y,ys[i]?=some x→ys[j]?=some y→lt i j=ltF x y) ∨
 (∃ (rows:Nat→List V) (ks:List Nat),ks≠[]∧0∉ks∧(∀ i y,ys[i]?=some y→∃ a,y=.ref a∧SqT K H a (rows i)∧(rows i).map knd=ks)∧∀ i j,i<ys.length→j<ys.length→lt i j=lexV (rows i) (rows j))
noncomputable def mSorted (K:PySem.W.Frag):List V→Hp→VK→Prop:=fun xs H Q=>match xs with
 | [.ref p]=>∃ ys lt,SqL K H p ys∧ys.length<64∧WOr lt∧SrtV K H ys lt∧∀ idx,Srtd lt ys.length idx→∀ l,H l=none→Q (.ref l) (upd H l (.lst (idx.map fun i=>ys.getD i .non)))
 | _=>False
noncomputable def tyK (k:Nat):Value:=if k=1 then .type "int" else .type "str"
theorem zkK_ {M:Model}{h:Heap}{x:V}{u:Value}{k:Nat}(r:RelV x u) (hk:knd x=k) (h0:k≠0):Looks M h (typeOf u) (tyK k):=by
 subst hk
 rcases zcJ_ h0 with ⟨i,rfl⟩ | ⟨z,rfl⟩
 ·obtain ⟨t,rfl⟩:=r
  exact .now
 ·obtain ⟨t,rfl⟩:=r
  exact .now
theorem znd_ (k:Nat):(tyK k != Value.type "tuple")=true:=by unfold tyK; split<;>decide +kernel
theorem zm1_ (k:Nat):(tyK k == tyK k)=true:=by unfold tyK; split<;>decide +kernel
theorem zcb_ {ys:List V}{us:List Value}(r:Vals ys us) {i:Nat}(h:i<us.length):∃ y,ys[i]?=some y∧RelV y (us.getD i Value.none)∧y∈ys:=by
 have hl:=Vals.length r
 have e:ys[i]?=some ys[i]:=List.getElem?_eq_getElem (by omega)
 obtain ⟨u,eu,ru⟩:=Vals.get r e
 refine ⟨_,e,?_,List.getElem_mem _⟩
 rw [List.getD_eq_getElem?_getD,eu]
 exact ru
theorem zhi_ {ys:List V}{us:List Value}(r:Vals ys us):∀ (idx:List Nat),(∀ i∈idx,i<us.length)→Vals (idx.map fun i=>ys.getD i .non) (idx.map fun i=>us.getD i Value.none)
 | [],_=>.nil
 | i::idx,h=>by
  obtain ⟨y,e,ry,_⟩:=zcb_ r (h i (List.mem_cons_self ..))
  refine .cons ?_ (zhi_ r idx fun j hj=>h j (List.mem_cons_of_mem _ hj))
  show RelV (ys.getD i V.non) _
  rw [List.getD_eq_getElem?_getD,e]
  exact ry
section
variable {X:Cx}
theorem zhT_:CallR X (.builtin "sorted") (mSorted X.K):=by
 intro pins s σ H xs us Q I r h
 unfold mSorted at h
 split at h
 ·rename_i p
  obtain ⟨ys,lt,hp,h64,wo,sv,q⟩:=h
  obtain ⟨u,rfl,rx⟩:=vals1 r
  cases rx
  obtain ⟨its,r',pl,hz⟩:=I.list hp
  have hlen:=Vals.length r'
  refine zno_ pl.isList (by omega) wo (fun h2 h' kp=>?_) fun h' c idx kp hi ho=>?_
  ·rcases sv with ⟨k,hk,hall,hlt⟩ | ⟨rows,ks,hne,h0,hrow,hlt⟩
   ·refine ⟨oneType',fun A C hC=>?_,fun A i j C hi hj hC=>?_⟩
    ·refine kas_kind h2 (T:=tyK k) (fun v hv=>?_) (znd_ k) (zm1_ k) hC
     obtain ⟨i,hi⟩:=List.mem_iff_getElem?.mp hv
     obtain ⟨hi',_⟩:=List.getElem?_eq_some_iff.mp hi
     obtain ⟨y,_,ry,hy⟩:=zcb_ r' hi'
     rw [List.getD_eq_getElem?_getD,hi] at ry
     exact zkK_ ry (hall y hy) hk
    ·obtain ⟨x,ex,rx,hx⟩:=zcb_ r' hi
     obtain ⟨y,ey,ry,hy⟩:=zcb_ r' hj
     rw [hlt i j x y ex ey] at hC
     unfold kas_ask
     rw [keyLt'_oneType]
     exact ziV_ rx ry (by rw [hall x hx,hall y hy]) (by rw [hall x hx]; exact hk) hC
   ·have tup:∀ i,i<its.length→∃ (a:Addr) (o:Obj) (ts:List Value) (n:Nat),its[i]?=some (.ref a)∧h'.get? a=some o∧o.cls=.type "tuple" ∧ o.data=.seq ts.toArray n∧Vals (rows i) ts∧(rows i).map knd=ks:=fun i hi=>by
     obtain ⟨y,e,ry,_⟩:=zcb_ r' hi
     obtain ⟨a,rfl,ht,hk⟩:=hrow i y e
     obtain ⟨ts,rt,⟨o,ho,hc,n,hd⟩,_⟩:=I.tuple ht
     refine ⟨a,o,ts,n,?_,kp _ _ ho,hc,hd,rt,hk⟩
     have:its.getD i Value.none=.ref a:=ry
     rw [List.getD_eq_getElem?_getD,List.getElem?_eq_getElem hi] at this
     rw [List.getElem?_eq_getElem hi]
     exact congrArg some this
    obtain ⟨k,ks',rfl⟩:∃ k ks',ks=k::ks':=by
     cases ks with
     | nil=>exact absurd rfl hne
     | cons k ks'=>exact ⟨k,ks',rfl⟩
    have hk0:k≠0:=fun e=>h0 (by rw [e]; exact List.mem_cons_self ..)
    refine ⟨tuples' true,fun A C hC=>?_,fun A i j C hi hj hC=>?_⟩
    ·have kt:∀ (l:List Value) (d:Nat),its.drop d=l→∃ fs,KatTups h' l fs∧fs.length=l.length∧∀ v∈fs,Looks (model X.prog X.w) h' (typeOf v) (tyK k):=by
      intro l
      induction l with
      | nil=>intro d _; exact ⟨[],.nil,rfl,fun v hv=>by cases hv⟩
      | cons v l ih =>
       intro d hd
       have hdl:d<its.length:=by
        have:=congrArg List.length hd
        rw [List.length_drop,List.length_cons] at this
        omega
       obtain ⟨a,o,ts,n,e,ho,hc,hdd,rt,hk⟩:=tup d hdl
       have e2:its.drop d=its[d]::its.drop (d+1):=List.drop_eq_getElem_cons hdl
       rw [hd] at e2
       injection e2 with e3 e4
       obtain ⟨fs,k1,k2,k3⟩:=ih (d+1) e4.symm
       rw [List.getElem?_eq_getElem hdl] at e
       injection e with e
       rw [e3,e]
       cases hr:rows d with
       | nil=>rw [hr] at hk; simp at hk
       | cons x xr =>
        rw [hr] at rt hk
        cases rt with
        | @cons _ f _ tr rf rr =>
         rw [List.map_cons] at hk
         injection hk with hk1 hk2
         refine ⟨f::fs,.cons ho hc hdd (by simp) k1,by simp [k2],fun v hv=>?_⟩
         rcases List.mem_cons.mp hv with rfl | hv
         ·exact zkK_ rf hk1 hk0
         ·exact k3 v hv
     obtain ⟨fs,k1,k2,k3⟩:=kt its 0 rfl
     have:=kat_kind (M:=model X.prog X.w) (A:=A) (E:=fun _ _=>False) (s:={ s with heap:=h' }) (Q:=C) k1 (by omega) k3 (zm1_ k) (by rw [znd_]; exact hC)
     exact this
    ·obtain ⟨a,o,ts,n,e,ho,hc,hd,rt,hk⟩:=tup i hi
     obtain ⟨a2,o2,ts2,n2,e2,ho2,hc2,hd2,rt2,hk2⟩:=tup j hj
     unfold kas_ask
     rw [List.getD_eq_getElem?_getD,List.getD_eq_getElem?_getD,e,e2]
     have hl:ts.length=ts2.length:=by
      have a1:=Vals.length rt
      have a2:=Vals.length rt2
      have:=congrArg List.length (hk.trans hk2.symm)
      rw [List.length_map,List.length_map] at this
      omega
     refine kat_lt (s:={ s with heap:=h' }) ho hd ho2 hd2 ?_
     rw [show decide (ts.toArray.size<ts2.toArray.size)=false from decide_eq_false (by simp [hl])]
     refine zku_ 0 rt rt2 (hk.trans hk2.symm) (by rw [hk]; exact h0) ?_
     rw [← hlt i j (by omega) (by omega)]
     exact hC
  ·refine ⟨.ref (s.heap.objs.size+1),_,I.laid (o:=.lst (idx.map fun i=>ys.getD i .non)) (t':=s.toks) kp (Nat.le_succ _) ?_,rfl,q idx (by rwa [hlen]) _ (I.hok.fresh (Nat.le_succ _))⟩
   have hi1:∀ i∈idx,i<its.length:=fun i hi'=>List.mem_range.mp (hi.1.mem_iff.mp hi')
   refine ⟨?_,_,c,zhi_ r' idx hi1,ho⟩
   rw [List.length_map,hi.1.length_eq,List.length_range,sizeLine_eq]
   omega
 ·exact h.elim
end
end L2
namespace L2
open PySem PySem.Spec PyProof.Rows PySem.W
section
variable {α β:Type}
structure LOr (lt:α→α→Bool):Prop where
 asym:∀ {a b},lt a b=true→lt b a=false
 tr:∀ {a b c},lt b a=false→lt c b=false→lt c a=false
 anti:∀ {a b},lt a b=false→lt b a=false→a=b
noncomputable def srtL (lt:α→α→Bool) (xs:List α):List α:=xs.mergeSort (fun a b=>!lt b a)
theorem zil_ (lt:α→α→Bool) (xs:List α):(srtL lt xs).Perm xs:=List.mergeSort_perm _ _
theorem ziC_ {lt:α→α→Bool}(o:LOr lt) (xs:List α):(srtL lt xs).Pairwise fun a b=>lt b a=false:=by
 have:=List.pairwise_mergeSort (le:=fun a b=>!lt b a) (fun a b c h1 h2=>by simp only [Bool.not_eq_true'] at *; exact o.tr h1 h2) (fun a b=>by
  cases h:lt b a with
  | false=>simp
  | true=>simp [o.asym h]) xs
 exact this.imp (fun h=>by simpa using h)
theorem zjC_ {lt:α→α→Bool}(o:LOr lt):∀ {ws ys:List α},ws.Perm ys→ws.Pairwise (fun a b=>lt b a=false)→ys.Pairwise (fun a b=>lt b a=false)→ws=ys
 | [],ys,hp,_,_=>by rw [List.Perm.nil_eq hp]
 | w::ws,[],hp,_,_=>by have:=hp.length_eq; simp at this
 | w::ws,y::ys,hp,h1,h2=>by
  obtain ⟨a1,a2⟩:=List.pairwise_cons.mp h1
  obtain ⟨b1,b2⟩:=List.pairwise_cons.mp h2
  have e:w=y:=by
   have m1:w∈y::ys:=hp.mem_iff.mp (List.mem_cons_self ..)
   have m2:y∈w::ws:=hp.mem_iff.mpr (List.mem_cons_self ..)
   rcases List.mem_cons.mp m1 with e | m1
   ·exact e
   ·rcases List.mem_cons.mp m2 with e | m2
    ·exact e.symm
    ·exact o.anti (b1 w m1) (a1 y m2)
  subst e
  rw [zjC_ o (List.Perm.cons_inv hp) a2 b2]
theorem zlC_ {lt:α→α→Bool}(o:LOr lt) {ws xs:List α}(hp:ws.Perm xs) (hs:ws.Pairwise fun a b=>lt b a=false):ws=srtL lt xs :=
 zjC_ o (hp.trans (zil_ lt xs).symm) hs (ziC_ o xs)
noncomputable def ltI (a b:Int):Bool:=decide (a<b)
theorem zqA_:LOr ltI:=by
 unfold ltI
 refine ⟨fun h=>?_,fun h h'=>?_,fun h h'=>?_⟩<;>simp only [decide_eq_true_eq,decide_eq_false_iff_not] at*<;> omega
end
end L2
namespace L2
open PySem PySem.Spec PyProof.Rows PySem.W
section
variable {α β γ:Type}{K:PySem.W.Frag}{E:XK}
noncomputable def FlT (T:Ty α) (k:Nat) (lt:α→α→Bool):Prop:=k≠0∧∀ a v F,T.R a v F→knd v=k∧∀ b u F',T.R b u F'→ltF v u=lt a b∧(eqF v u=true↔a=b)
theorem zqk_:FlT tyInt 1 ltI:=by
 refine ⟨by decide,fun a v F h=>?_⟩
 subst h
 refine ⟨rfl,fun b u F' h'=>?_⟩
 subst h'
 exact ⟨rfl,by simp [eqF]⟩
theorem zjU_ {T:Ty α}{H:Hp}:∀ {xs:List α}{vs:List V},Prs T H xs vs→∀ (i:Nat) (v:V),vs[i]?=some v→∃ x,xs[i]?=some x∧T.R x v H
 | _,_,.nil,i,v,e=>by simp at e
 | _,_,.cons a t,0,v,e=>by simp at e; subst e; exact ⟨_,rfl,a⟩
 | _,_,.cons a t,i+1,v,e=>zjU_ t i v (by simpa using e)
theorem zl7_ {T:Ty α}{H:Hp}{xs:List α}{vs:List V}(r:Prs T H xs vs) (d:α):∀ (idx:List Nat),(∀ i∈idx,i<vs.length)→Prs T H (idx.map fun i=>xs.getD i d) (idx.map fun i=>vs.getD i .non)
 | [],_=>.nil
 | i::idx,h=>by
  have hi:=h i (List.mem_cons_self ..)
  obtain ⟨x,e,rx⟩:=zjU_ r i vs[i] (List.getElem?_eq_getElem hi)
  refine .cons ?_ (zl7_ r d idx fun j hj=>h j (List.mem_cons_of_mem _ hj))
  show T.R (xs.getD i d) (vs.getD i .non) H
  rw [List.getD_eq_getElem?_getD,List.getD_eq_getElem?_getD,e,List.getElem?_eq_getElem hi]
  exact rx
theorem zkw_ {lt:α→α→Bool}(o:LOr lt) {xs:List α}{d:α}{idx:List Nat}(h:Srtd (fun i j=>lt (xs.getD i d) (xs.getD j d)) xs.length idx):(idx.map fun i=>xs.getD i d)=srtL lt xs:=by
 refine zlC_ o ?_ ?_
 ·have e:(List.range xs.length).map (fun i=>xs.getD i d)=xs:=by
   apply List.ext_getElem?
   intro i
   by_cases hi:i<xs.length
   ·simp [hi]
   ·simp [List.getElem?_eq_none,hi,Nat.le_of_not_lt hi]
  have:=h.1.map (fun i=>xs.getD i d)
  rwa [e] at this
 ·exact List.pairwise_map.mpr (h.2.imp fun q=>q)
theorem zpZ_ {lt:α→α→Bool}(o:LOr lt) (f:Nat→α):WOr fun i j=>lt (f i) (f j):=⟨fun h=>o.asym h,fun h h'=>o.tr h h'⟩
end
end L2
universe u
namespace L2
open PySem PySem.Spec PyProof.Rows
section
variable {α γ:Type}{K:PySem.W.Frag}{E:XK}{L:List Sl}{T:Ty α}{e:TE}
end
section
variable {α:Type}{K:PySem.W.Frag}{E:XK}{L:List Sl}{T:Ty α}{F h H F0 H0:Hp}{ρ B S:Type}{LS:S→List Sl}{LB:B→List Sl}{O:Own ρ}
end
end L2
namespace L2
open PySem PySem.Spec PyProof.Rows PySem.W
section
variable {prog:Program}{w:World}{A:Around}{E:Value→Shared→Prop}{s:Shared}{T:String}{rr dd:Addr}{n:Nat}{PP:Nat→Value→Prop}{OK:Heap→Prop}
theorem zmQ_ {R:List Value→Shared→Prop}(Kd:KdlSrc prog w T rr dd n PP OK) (hh:A.handled=none) (hok:OK s.heap) (hn:n≤sizeLine)
  (hR:∀ (h':Heap) (tk:Nat) (acc:Array Value),s.heap.objs.size<h'.objs.size→(∀ b o,s.heap.get? b=some o→h'.get? b=some o)→ItemsOf PP acc n→R acc.toList { s with heap:=h',toks:=tk }) :
  wpAny (model prog w) A (collect (.ref rr)) R E s:=by
 obtain ⟨lr,ld⟩:=Kd.there _ hok
 unfold collect; refine wpAny_bind (wpAny_runValue (codeAny_builtin entry_proto_collect' ?_)); rw [Around.under_plainId PySem.F.plain_proto_collect _]
 show wpAny _ A.in1 (newList []>>=fun l=>again (.builtin "list.__iadd__" ⟨[l,.ref rr],[]⟩)) _ _ s; refine wpAny_bind (wpAny_newObj_type ?_)
 refine wpAny_pure ⟨plainId_quiet PySem.F.plain_list_iadd _,codeAny_builtin entry_list_iadd' ?_⟩; rw [Around.under_plainId PySem.F.plain_list_iadd _]
 have h0:(s.heap.push { cls:=.type "list",data:=.seq ([]:List Value).toArray }).get? s.heap.objs.size=some { cls:=.type "list",data:=.seq #[] }:=Heap.get?_push_size _ rfl
 show wpAny _ A.in1 (Builtin.List.listExtendWith (.ref s.heap.objs.size) (.ref rr) (.ref s.heap.objs.size)) _ _ _
 have key:=kdl_extend (A:=A) (s:={ s with heap:=s.heap.push { cls:=.type "list",data:=.seq ([]:List Value).toArray } })
  (R:=fun (q:Result) (s':Shared)=>∃ (h':Heap) (tk:Nat) (acc:Array Value) (c:Nat),q=.ok (.ret (.ref s.heap.objs.size))∧s'={ s with heap:=h',toks:=tk }∧(∀ b o,s.heap.get? b=some o→h'.get? b=some o)∧h'.get? s.heap.objs.size=some { cls:=.type "list",dict:=none,data:=.seq acc c,slots:=#[] }∧ItemsOf PP acc n)
  Kd hh (Kd.keep _ _ hok fun b _ o e=>Heap.get?_push_of_some _ e) s.heap.objs.size (Nat.ne_of_gt lr) (Nat.ne_of_gt ld) (.ref s.heap.objs.size) 0 h0
  (fun h' tk acc c hk hS hacc=>⟨h',tk,acc,c,rfl,rfl,fun b o e=>hk b o (Nat.ne_of_lt (Heap.lt_size e)) (Heap.get?_push_of_some _ e),hS,hacc⟩) hn
 refine wpAny_mono key (fun fin s' x=>?_) fun e s' x=>?_
 ·cases fin with
  | done f =>
   obtain ⟨h',tk,acc,c,e,rfl,hk,hS,hacc⟩:=x
   cases e; show wpAny _ A (load s.heap.objs.size>>=_) _ _ _
   exact wpAny_bind (wpAny_load hS (wpAny_pure (hR h' tk acc (Heap.lt_size hS) hk hacc)))
  | again c1 =>
   refine ⟨x.1,codeAny_mono x.2 fun q s2 y=>?_⟩; obtain ⟨h',tk,acc,c,rfl,rfl,hk,hS,hacc⟩:=y
   show wpAny _ A (load s.heap.objs.size>>=_) _ _ _; exact wpAny_bind (wpAny_load hS (wpAny_pure (hR h' tk acc (Heap.lt_size hS) hk hacc)))
 ·obtain ⟨_,_,_,_,e',_⟩:=x; cases e'
end
section
variable {prog:Program}{w:World}{A:Around}{E:Value→Shared→Prop}{s:Shared}{lt:Nat→Nat→Bool}
theorem zlM_ {v:Value}{n:Nat}{PV:List Value→Prop}{Q:Value→Shared→Prop}(h64:n<64) (wo:WOr lt) (hlen:∀ vs,PV vs→vs.length=n)
  (col:∀ R:List Value→Shared→Prop,(∀ (vs:List Value) (h':Heap) (tk:Nat),PV vs→s.heap.objs.size≤h'.objs.size→(∀ b o,s.heap.get? b=some o→h'.get? b=some o)→R vs { s with heap:=h',toks:=tk })→wpAny (model prog w) A.in1 (collect v) R E s)
  (kk:∀ (vs:List Value),PV vs→2≤vs.length→∀ (h':Heap) (tk:Nat),(∀ b o,s.heap.get? b=some o→h'.get? b=some o)→CmpAt prog w vs lt { s with heap:=h',toks:=tk })
  (q:∀ (vs:List Value) (l:Addr) (h':Heap) (tk:Nat) c (p:List Nat),PV vs→s.heap.objs.size≤l→(∀ b o,s.heap.get? b=some o→h'.get? b=some o)→Srtd lt vs.length p→h'.get? l=some (seqObj "list" (p.map fun i=>vs.getD i Value.none).toArray c)→Q (.ref l) { s with heap:=h',toks:=tk }) :
  wpAny (model prog w) A (call (.builtin "sorted") [v]) Q E s:=by
 refine Calls.call_function_entry kind_sorted plain_sorted entry_sorted (args_sorted1 _) ?_
 unfold Builtin.«sorted»
 refine wpAny_bind (m:=checkCount "sorted" 1 1 _) (wpAny_pure ?_)
 refine wpAny_bind (col _ fun vs h1 tk pv hle k1=>?_)
 have hn:=hlen vs pv
 refine wpAny_bind (wpAny_newList ?_ (by rw [sizeLine_eq]; omega))
 have hoL:(h1.push (seqObj "list" vs.toArray 0)).get? h1.objs.size=some (seqObj "list" vs.toArray 0):=Heap.get?_push_size _ rfl
 have keep:∀ b o,s.heap.get? b=some o→(h1.push (seqObj "list" vs.toArray 0)).get? b=some o:=fun b o e=>Heap.get?_push_of_some _ (k1 b o e)
 show wpAny _ _ _ _ _ { s with heap:=h1.push (seqObj "list" vs.toArray 0),toks:=tk }
 have keep2:∀ (h':Heap),(∀ b o,b≠h1.objs.size→(h1.push (seqObj "list" vs.toArray 0)).get? b=some o→h'.get? b=some o)→∀ b o,s.heap.get? b=some o→h'.get? b=some o:=fun h' hk b o e =>
  hk b o (Nat.ne_of_lt (Heap.lt_size (k1 b o e))) (keep b o e)
 refine wpAny_bind (wpAny_holding (wpAny_call_entry slot_list_sort ⟨_,hoL,rfl⟩ entry_list_sort ?body (args_list_sort _)))
 case body =>
  refine zjX_ (s:={ s with heap:=h1.push (seqObj "list" vs.toArray 0),toks:=tk }) hoL (by omega) wo (fun h2 h' hk=>kk vs pv h2 h' tk (keep2 h' hk)) fun h' c p hk hp ho'=>?_
  exact ⟨_,rfl,wpAny_pure ⟨_,rfl,q vs _ h' tk c p pv hle (keep2 h' hk) hp ho'⟩⟩
end
section
variable {X:Cx}
theorem zmY_ {ys:List V}{its:List Value}{lt:Nat→Nat→Bool}{k:Nat}{s:Shared}(r':Vals ys its) (hk:k≠0) (hall:∀ y∈ys,knd y=k) (hlt:∀ i j x y,ys[i]?=some x→ys[j]?=some y→lt i j=ltF x y) (h2:2≤its.length) :
  CmpAt X.prog X.w its lt s:=by
 refine ⟨oneType',fun A C hC=>?_,fun A i j C hi hj hC=>?_⟩
 ·refine kas_kind h2 (T:=tyK k) (fun v hv=>?_) (znd_ k) (zm1_ k) hC
  obtain ⟨i,hi⟩:=List.mem_iff_getElem?.mp hv
  obtain ⟨hi',_⟩:=List.getElem?_eq_some_iff.mp hi
  obtain ⟨y,_,ry,hy⟩:=zcb_ r' hi'
  rw [List.getD_eq_getElem?_getD,hi] at ry
  exact zkK_ ry (hall y hy) hk
 ·obtain ⟨x,ex,rx,hx⟩:=zcb_ r' hi
  obtain ⟨y,ey,ry,hy⟩:=zcb_ r' hj
  rw [hlt i j x y ex ey] at hC
  unfold kas_ask
  rw [keyLt'_oneType]
  exact ziV_ rx ry (by rw [hall x hx,hall y hy]) (by rw [hall x hx]; exact hk) hC
noncomputable def mSortD (K:PySem.W.Frag):List V→Hp→VK→Prop:=fun xs H Q=>mSorted K xs H Q∨match xs with
 | [.ref p]=>∃ (kvs:List (Key×V)) (k:Nat) (lt:Nat→Nat→Bool),H p=some (.dK kvs)∧kvs.length<64∧WOr lt∧k≠0∧(∀ q∈kvs,knd (kV q.1)=k)∧(∀ i j x y,(kvs.map fun q:Key×V=>kV q.1)[i]?=some x→(kvs.map fun q=>kV q.1)[j]?=some y→lt i j=ltF x y) ∧
   ∀ idx,Srtd lt kvs.length idx→∀ l,H l=none→Q (.ref l) (upd H l (.lst (idx.map fun i=>(kvs.map fun q=>kV q.1).getD i .non)))
 | _=>False
theorem is_kV {P:Program}{w:World}{k:Key}{u:Value}(h:(mixKind P w).is k u=true):RelV (kV k) u:=by
 rw [zj0_] at h
 rcases zaQ_ h with ⟨i,t,rfl,rfl⟩ | ⟨x,t,rfl,rfl⟩<;>exact ⟨_,rfl⟩
theorem zhV_ (hc:X.calm=true):CallR X (.builtin "sorted") (mSortD X.K):=by
 intro pins s σ H xs us Q I r h
 unfold mSortD at h
 rcases h with h | h
 ·exact zhT_ pins s σ H xs us Q I r h
 ·split at h
  ·rename_i p
   obtain ⟨kvs,k,lt,hp,h64,wo,hk,hall,hlt,q⟩:=h
   obtain ⟨u,rfl,rx⟩:=vals1 r
   cases rx
   obtain ⟨z,hd,vs,rel,dd⟩:=znF_ I.hok (.inl hp)
   obtain ⟨ep,hat⟩:=dd.dictAt
   have hln:kvs.length=vs.length:=rel.length
   have hpv:∀ us:List Value,Vals (kvs.map fun q=>kV q.1) us→us.length=kvs.length:=fun us hv=>by rw [← Vals.length hv,List.length_map]
   refine zlM_ (n:=kvs.length) (PV:=fun us=>Vals (kvs.map fun q=>kV q.1) us) h64 wo hpv (fun R hR=>?_) (fun us hv h2 h' tk _=>?_) fun us l h' tk c idx hv hl kp hi ho=>?_
   ·refine zmQ_ (kdl_dict (knd:=mixKind X.prog X.w) (kvs:=vs) (ep:=ep) hd) ?_ hat (by rw [← hln,sizeLine_eq]; omega) fun h' tk acc hsz hkp hacc=>hR _ h' tk ?_ (Nat.le_of_lt hsz) hkp
    ·exact I.ok.hd hc
    ·have hl:acc.toList.length=kvs.length:=by rw [Array.length_toList,hln]; exact hacc.1
     have e:∀ (ks:List (Key×V)) (us:List Value),ks.length=us.length→(∀ (i:Nat) (q:Key×V) (u:Value),ks[i]?=some q→us[i]?=some u→RelV (kV q.1) u)→Vals (ks.map fun q=>kV q.1) us:=by
      intro ks
      induction ks with
      | nil=>intro us hl _; cases us with | nil=>exact .nil | cons _ _=>simp at hl
      | cons q ks ih =>
       intro us hl hh
       cases us with
       | nil=>simp at hl
       | cons u us=>exact .cons (hh 0 q u rfl rfl) (ih us (by simpa using hl) fun i q' u' e1 e2=>hh (i+1) q' u' (by simpa using e1) (by simpa using e2))
     refine e kvs acc.toList hl.symm fun i q u e1 e2=>?_
     obtain ⟨k',x,ek,hk'⟩:=hacc.2 i u (by rw [← Array.getElem?_toList]; exact e2)
     have:∀ (a:List (Key×V)) (b:List (Key×Value)) (i:Nat) q k' x,KV a b→a[i]?=some q→b[i]?=some (k',x)→q.1=k':=by
      intro a b i q k' x hab
      unfold KV at hab
      induction hab generalizing i with
      | nil=>intro e; simp at e
      | cons r t ih =>
       intro e1 e2
       cases i with
       | zero=>simp at e1 e2; subst e1; have:=r.1; rw [e2] at this; exact this
       | succ i=>exact ih i (by simpa using e1) (by simpa using e2)
     rw [this kvs vs i q k' x rel e1 ek]
     exact is_kV hk'
   ·refine zmY_ hv hk (fun y hy=>?_) hlt h2
    obtain ⟨q,hq,rfl⟩:=List.mem_map.mp hy
    exact hall q hq
   ·have hlu:=hpv us hv
    refine ⟨.ref l,_,I.laid (o:=.lst (idx.map fun i=>(kvs.map fun q=>kV q.1).getD i .non)) (t':=tk) kp hl ?_,rfl,q idx (by rwa [← hlu]) _ (I.hok.fresh hl)⟩
    have hi1:∀ i∈idx,i<us.length:=fun i hi'=>List.mem_range.mp (hi.1.mem_iff.mp hi')
    refine ⟨?_,_,c,zhi_ hv idx hi1,ho⟩
    rw [List.length_map,hi.1.length_eq,List.length_range,sizeLine_eq]
    omega
  ·exact h.elim
end
section
variable {α β γ κ:Type}{K:PySem.W.Frag}{E:XK}
theorem zjT_ [DecidableEq κ] {KY:KyT κ}{T:Ty α}{k:Nat}{lt:κ→κ→Bool}(f:FlT KY.T k lt) (o:LOr lt) (hk:∀ x F,KY.T.R x (kV (KY.key x)) F) :
  BlO K (mSortD K) E (csLast (tyD KY T)) (fun m=>.grd (m.length<64) (.ok (srtL lt (m.map (·.1))))) (owL KY.T):=by
 rintro m vs F H Q hs ⟨v,rfl,p,kvs,rfl,h,r⟩ q
 have hl:m.length=kvs.length:=Paired.length r
 have pr:Prs KY.T F (m.map (·.1)) (kvs.map fun q=>kV q.1):=by
  clear h hl q
  induction r with
  | nil=>exact .nil
  | cons a t ih=>rename_i q w m kvs; rw [List.map_cons,List.map_cons,a.1]; exact .cons (hk _ _) ih
 obtain ⟨h64,q⟩:=q.grd
 have all:∀ q∈kvs,knd (kV q.1)=k:=fun q hq=>by
  obtain ⟨i,e⟩:=List.mem_iff_getElem?.mp (List.mem_map_of_mem (f:=fun q:Key×V=>kV q.1) hq)
  obtain ⟨x,_,rx⟩:=zjU_ pr i _ e
  exact (f.2 x _ F rx).1
 cases m with
 | nil =>
  cases r
  refine .inr ⟨[],1,fun _ _=>false,hs _ _ h,by decide,⟨(fun h=>by cases h),(fun _ _=>rfl)⟩,by decide,(fun y hy=>by cases hy),(fun i j x y e=>by simp at e),fun idx hi l hl=>?_⟩
  have:idx=[]:=by have:=hi.1.length_eq; simpa using this
  subst this
  rw [show srtL lt (([]:List (κ×α)).map (·.1))=[] by simp [srtL]] at q
  exact zet_ hs hl (xs:=[]) .nil q
 | cons x xs =>
  refine .inr ⟨kvs,k,fun i j=>lt (((x::xs).map (·.1)).getD i x.1) (((x::xs).map (·.1)).getD j x.1),hs _ _ h,by omega,zpZ_ o _,f.1,all,fun i j a b ea eb=>?_,fun idx hi l hl2=>?_⟩
  ·obtain ⟨a',ea',ra⟩:=zjU_ pr i a ea
   obtain ⟨b',eb',rb⟩:=zjU_ pr j b eb
   show lt (((x::xs).map (·.1)).getD i x.1) (((x::xs).map (·.1)).getD j x.1)=_
   rw [List.getD_eq_getElem?_getD,List.getD_eq_getElem?_getD,ea',eb']
   exact ((f.2 a' a F ra).2 b' b F rb).1.symm
  ·rw [← hl,← List.length_map (f:=(·.1))] at hi
   have e:=zkw_ o hi
   rw [← e] at q
   refine zet_ hs hl2 (zl7_ pr x.1 idx fun i hi'=>?_) q
   have:=List.mem_range.mp (hi.1.mem_iff.mp hi')
   rw [List.length_map] at this ⊢
   omega
theorem zpB_ (x:Int) (F:Hp):(kInt).T.R x (kV (kInt.key x)) F:=rfl
end
end L2
namespace L2
open PySem PySem.Spec PyProof.Rows PySem.W
section
variable {prog:Program}{w:World}{A:Around}{E:Value→Shared→Prop}{s:Shared}{z ti to i j:Addr}{f g:List Addr}{n1 n2 k:Nat}{P1 P2:Nat→Value→Prop}{S1 S2:Nat→Heap→Prop}{a b:Value}
end
end L2
namespace L2
open PySem PySem.Spec PyProof.Rows PySem.W
section
variable {prog:Program}{w:World}{A:Around}{E:Value→Shared→Prop}{s:Shared}
end
section
variable {X:Cx}{elts:List Expr}{kk:Nat}{tpos:Pos}
end
section
variable {K:PySem.W.Frag}{E:XK}{α β:Type}{L:List Sl}{T:Ty α}
end
end L2
namespace L2
open PySem PySem.Spec PyProof.Rows
section
variable {K:PySem.W.Frag}{E:XK}{α β γ ρ S B:Type}{F0 H0 F h H:Hp}{L:List Sl}{e:TE}{T:Ty α}{r:Mo α}{O:Own ρ}{u:TS}{LS:S→List Sl}{LB:B→List Sl}
theorem Hold.atM:∀ {L:List Sl}{σ:St}{F h:Hp}(i:Nat) {s:Sl},Hold L σ F h→L[i]?=some s →
  ∃ o h1 h2,σ[i]?=some o∧Jn h1 h2 h∧s.P o F h1∧∀ F' s' o' h1' h',Same F F'→Jn h1' h2 h'→s'.P o' F' h1'→Hold (L.set i s') (σ.set i o') F' h'
 | [],_,_,_,_,_,_,e=>by cases e
 | s::L,[],_,_,_,_,q,_=>q.elim
 | s::L,o::σ,F,h,0,t,⟨h1,h2,j,p,r⟩,e=>by
  cases e
  exact ⟨o,h1,h2,rfl,j,p,fun F' s' o' h1' h' g j' p'=>⟨h1',h2,j',p',r.mono g⟩⟩
 | s::L,o::σ,F,h,i+1,t,⟨h1,h2,j,p,r⟩,e=>by
  obtain ⟨o1,k1,k2,e1,j1,p1,f⟩:=Hold.atM i r (by simpa using e)
  have d1:Dj h1 k1:=fun p=>by
   rcases j.dj p with a | a
   ·exact .inl a
   ·exact .inr (j1.l.free a)
  have d2:Dj h1 k2:=fun p=>by
   rcases j.dj p with a | a
   ·exact .inl a
   ·exact .inr (j1.r.free a)
  refine ⟨o1,k1,un h1 k2,by simpa using e1,fun p=>?_,p1,fun F' s' o' k1' h' g j' p'=>?_⟩
  ·rcases j p with ⟨a,b⟩ | ⟨a,b⟩
   ·rcases j1 p with ⟨c,d⟩ | ⟨c,d⟩
    ·refine .inl ⟨c,?_⟩; unfold un; rw [a,b,d]
    ·refine .inr ⟨?_,by rw [b,d]⟩; unfold un; rw [a,c]
   ·refine .inl ⟨j1.l.free a,?_⟩
    have:k2 p=none:=j1.r.free a
    unfold un; rw [b]
    cases h1 p with
    | none=>rw [this]
    | some u=>rfl
  ·have dd:Dj k1' k2:=fun p=>by
    rcases j' p with ⟨a,b⟩ | ⟨a,b⟩
    ·exact .inl a
    ·right; unfold un at a
     cases z:h1 p with
     | none=>rw [z] at a; exact a
     | some u=>rw [z] at a; cases a
   refine ⟨h1,un k1' k2,fun p=>?_,p.mono g,f F' s' o' k1' _ g (zdN_ dd) p'⟩
   rcases j' p with ⟨a,b⟩ | ⟨a,b⟩
   ·unfold un at b ⊢
    cases z:h1 p with
    | none=>rw [z] at b; exact .inl ⟨rfl,by rw [b,a]⟩
    | some u =>
     rw [z] at b
     refine .inr ⟨?_,b⟩
     rw [a]
     rcases d2 p with y | y
     ·rw [y] at z; cases z
     ·exact y
   ·unfold un at a
    cases z:h1 p with
    | some u=>rw [z] at a; cases a
    | none =>
     rw [z] at a
     refine .inl ⟨rfl,?_⟩
     unfold un; rw [b]
     cases k1' p with
     | none=>exact a.symm
     | some u=>rfl
structure PutC (F2 H2 h H0 k k' F3 H3:Hp):Prop where
 ff:Same F2 F3
 fh:Same F3 H3
 ol:Same (less H2 k) H3
 nw:∀ q,F2 q=none→F3 q≠none→H2 q=none∨k q≠none
 kh:Same k' H3
 dj:Dj F3 k'
 fr:∀ q,k q=none→k' q≠none→h q=none∧H0 q=none
theorem zhZ_ {O1:Own α}{i:Nat}{σ:St}{x:α}(hL:Hold L σ F h) (hi:L[i]?=some (.ow O1 x)) (ok:Okk F0 H0 F h H) :
  ∃ v k,σ[i]?=some (some v)∧O1.O x v F k∧Same k H∧Same k h∧Dj F k∧∀ {β:Type}(O2:Own β) (x':β) (v':V) (k' F3 H3:Hp),PutC F H h H0 k k' F3 H3→O2.O x' v' F3 k' →
   ∃ h',Hold (L.set i (.ow O2 x')) (σ.set i (some v')) F3 h'∧Okk F0 H0 F3 h' H3:=by
 obtain ⟨o,k,hr,e1,j,⟨v,e2,ho⟩,f⟩:=hL.atM i hi
 subst e2
 obtain ⟨o1,o2,o3,o4,o5⟩:=ok
 have kh:Same k h:=j.l
 have rh:Same hr h:=j.r
 have kne:∀ q,k q≠none→h q≠none:=fun q z w=>z (kh.free w)
 refine ⟨v,k,e1,ho,kh.trans o3,kh,fun q=>?_,?_⟩
 ·rcases o2 q with z | z
  ·exact .inl z
  ·exact .inr (kh.free z)
 intro β O2 x' v' k' F3 H3 P hv'
 have rk:∀ {q o},hr q=some o→k q=none:=fun {q o} z=>by
  rcases j.dj q with y | y
  ·exact y
  ·rw [y] at z; cases z
 have dj:Dj k' hr:=fun q=>by
  by_cases w:k' q=none
  ·exact .inl w
  ·right
   by_cases w2:k q=none
   ·exact rh.free (P.fr q w2 w).1
   ·rcases j.dj q with y | y
    ·exact absurd y w2
    ·exact y
 have rH:∀ {q o},hr q=some o→H3 q=some o:=fun {q o} z=>P.ol q o (by rw [zS_ (rk z)]; exact o3 _ _ (rh _ _ z))
 refine ⟨un k' hr,f F3 (.ow O2 x') (some v') k' _ P.ff (zdN_ dj) ⟨_,rfl,hv'⟩,⟨o1.1.trans P.ff,P.fh,fun q o z=>?_,fun q a b=>?_⟩,fun q=>?_,fun q o z=>?_,fun q z=>?_,fun q xs z=>?_⟩
 ·have hq:h q=none:=by
   cases w:h q with
   | none=>rfl
   | some s=>have:=o4 q (by rw [w]; exact Option.some_ne_none _); rw [this] at z; cases z
  exact P.ol q o (by rw [zS_ (kh.free hq)]; exact o1.2.2.1 _ _ z)
 ·by_cases w:F q=none
  ·rcases P.nw q w b with y | y
   ·exact o1.2.2.1.free y
   ·exact o4 q (kne q y)
  ·exact o1.2.2.2 q a w
 ·unfold un
  cases w:k' q with
  | some s =>
   left
   rcases P.dj q with y | y
   ·exact y
   ·rw [y] at w; cases w
  | none =>
   cases y:hr q with
   | none=>exact .inr rfl
   | some s =>
    left
    have hq:h q=some s:=rh _ _ y
    have Fq:F q=none:=by
     rcases o2 q with d | d
     ·exact d
     ·rw [d] at hq; cases hq
    by_cases w3:F3 q=none
    ·exact w3
    ·rcases P.nw q Fq w3 with d | d
     ·rw [o3 _ _ hq] at d; cases d
     ·exact absurd (rk y) d
 ·unfold un at z
  cases w:k' q with
  | some s=>rw [w] at z; rw [P.kh q s w]; exact z
  | none=>rw [w] at z; exact rH z
 ·unfold un at z
  cases w:k' q with
  | some s =>
   by_cases y:k q=none
   ·exact (P.fr q y (by rw [w]; exact Option.some_ne_none _)).2
   ·exact o4 q (kne q y)
  | none =>
   rw [w] at z
   exact o4 q fun y=>z (rh.free y)
 ·unfold un at z
  cases w:k' q with
  | some s=>rw [w] at z; refine O2.notup hv' q xs ?_; rw [w]; exact z
  | none=>rw [w] at z; exact o5 q xs (rh _ _ z)
theorem PutC.same {k k':Hp}{H3:Hp}(ok:Okk F0 H0 F h H) (kh:Same k h) (a:Same k' H3) (b:∀ q,k q=none→k' q=none→H3 q=H q) (c:∀ q,k q=none→k' q≠none→F q=none∧h q=none∧H0 q=none∧H q=k' q):PutC F H h H0 k k' F H3:=by
 have dj:Dj F k':=fun q=>by
  by_cases w:k' q=none
  ·exact .inr w
  ·left
   by_cases y:k q=none
   ·exact (c q y w).1
   ·rcases ok.2.1 q with d | d
    ·exact d
    ·exact absurd (kh.free d) y
 have ol:∀ q o,k q=none→H q=some o→H3 q=some o:=fun q o y z=>by
  by_cases w:k' q=none
  ·rw [b q y w]; exact z
  ·obtain ⟨_,_,_,e⟩:=c q y w
   rw [z] at e
   exact a _ _ e.symm
 refine ⟨Same.refl _,fun q o z=>?_,fun q o z=>?_,fun q y z=>absurd y z,a,dj,fun q y z=>⟨(c q y z).2.1,(c q y z).2.2.1⟩⟩
 ·have y:k q=none:=by
   rcases ok.2.1 q with d | d
   ·rw [d] at z; cases z
   ·exact kh.free d
  exact ol q o y (ok.1.2.1 _ _ z)
 ·unfold less at z
  split at z
  ·rename_i y; exact ol q o y z
  ·cases z
theorem PutC.one {p:Addr}{o o':HO}(ok:Okk F0 H0 F h H) (kh:Same (one p o) h):PutC F H h H0 (one p o) (one p o') F (upd H p o'):=by
 have ne:∀ q,L2.one p o q=none→q≠p:=fun q z w=>by rw [w,zbk_] at z; cases z
 refine PutC.same ok kh (fun q s z=>?_) (fun q z1 z2=>zaT_ (ne q z1)) fun q z1 z2=>?_
 ·unfold L2.one at z
  split at z
  ·rename_i w; unfold upd; rw [if_pos w]; exact z
  ·cases z
 ·unfold L2.one at z2
  rw [if_neg (ne q z1)] at z2
  exact absurd rfl z2
end
section
variable {K:PySem.W.Frag}{E:XK}{α β γ ρ S B:Type}{F0 H0 F h H:Hp}{L:List Sl}{e:TE}{T:Ty α}{r:Mo α}{O:Own ρ}{u:TS}{LS:S→List Sl}{LB:B→List Sl}{p:Addr}{vs:List V}
end
end L2
namespace L2
open PySem PySem.Spec PyProof.Rows
section
variable {α β γ:Type}
noncomputable def OwAll (O:Own α) (F:Hp):List α→List V→Hp→Prop
 | [],[],h=>∀ p,h p=none
 | x::xs,v::vs,h=>∃ h1 h2,Jn h1 h2 h∧O.O x v F h1∧OwAll O F xs vs h2
 | _,_,_=>False
variable {O:Own α}
theorem OwAll.mono:∀ {xs:List α}{vs:List V}{F F' h:Hp},Same F F'→OwAll O F xs vs h→OwAll O F' xs vs h
 | [],[],_,_,_,_,q=>q
 | x::xs,v::vs,F,F',h,g,⟨h1,h2,j,o,r⟩=>⟨h1,h2,j,O.mono g o,r.mono g⟩
 | [],_::_,_,_,_,_,q=>q.elim
 | _::_,[],_,_,_,_,q=>q.elim
theorem OwAll.imm (i:ImmO O):∀ {xs:List α}{vs:List V}{F F' h:Hp},Tups F F'→OwAll O F xs vs h→OwAll O F' xs vs h
 | [],[],_,_,_,_,q=>q
 | x::xs,v::vs,F,F',h,g,⟨h1,h2,j,o,r⟩=>⟨h1,h2,j,i g o,r.imm i g⟩
 | [],_::_,_,_,_,_,q=>q.elim
 | _::_,[],_,_,_,_,q=>q.elim
theorem OwAll.notup:∀ {xs:List α}{vs:List V}{F h:Hp},OwAll O F xs vs h→∀ p ys,h p≠some (.tup ys)
 | [],[],_,_,q,p,ys=>by rw [q p]; exact fun z=>by cases z
 | x::xs,v::vs,F,h,⟨h1,h2,j,o,r⟩,p,ys=>by
  rcases j p with ⟨_,b⟩ | ⟨_,b⟩
  ·rw [b]; exact r.notup p ys
  ·rw [b]; exact O.notup o p ys
 | [],_::_,_,_,q,_,_=>q.elim
 | _::_,[],_,_,q,_,_=>q.elim
theorem OwAll.len:∀ {xs:List α}{vs:List V}{F h:Hp},OwAll O F xs vs h→xs.length=vs.length
 | [],[],_,_,_=>rfl
 | x::xs,v::vs,F,h,⟨h1,h2,j,o,r⟩=>by rw [List.length_cons,List.length_cons,r.len]
 | [],_::_,_,_,q=>q.elim
 | _::_,[],_,_,q=>q.elim
theorem zew_ {F h1 h:Hp}(d:Dj F h) (s:Same h1 h):Same (un F h1) (un F h):=fun p o e=>by
 unfold un at e ⊢
 cases z:F p with
 | some w=>rw [z] at e; exact e
 | none=>rw [z] at e; exact s _ _ e
theorem OwAll.prs:∀ {xs:List α}{vs:List V}{F h G:Hp},Dj F h→Same (un F h) G→OwAll O F xs vs h→Prs O.fr G xs vs
 | [],[],_,_,_,_,_,_=>.nil
 | x::xs,v::vs,F,h,G,d,g,⟨h1,h2,j,o,r⟩=>by
  have d1:Dj F h1:=fun p=>by
   rcases d p with z | z
   ·exact .inl z
   ·exact .inr (j.l.free z)
  have d2:Dj F h2:=fun p=>by
   rcases d p with z | z
   ·exact .inl z
   ·exact .inr (j.r.free z)
  exact .cons (O.fr.mono ((zew_ d j.l).trans g) (O.frz d1 o)) (r.prs d2 ((zew_ d j.r).trans g))
 | [],_::_,_,_,_,_,_,q=>q.elim
 | _::_,[],_,_,_,_,_,q=>q.elim
theorem zjS_ {h1 h2 h:Hp}(j:Jn h1 h2 h):Jn h2 h1 h:=fun p=>by
 rcases j p with ⟨a,b⟩ | ⟨a,b⟩
 ·exact .inr ⟨a,b⟩
 ·exact .inl ⟨a,b⟩
theorem zdM_ {h1 h2 h12 h3 h:Hp}(j:Jn h1 h2 h12) (k:Jn h12 h3 h):∃ h23,Jn h2 h3 h23∧Jn h1 h23 h:=by
 have d:Dj h2 h3:=fun p=>by
  rcases k.dj p with z | z
  ·exact .inl (j.r.free z)
  ·exact .inr z
 refine ⟨un h2 h3,zdN_ d,fun p=>?_⟩
 unfold un
 rcases k p with ⟨a,b⟩ | ⟨a,b⟩
 ·refine .inl ⟨j.l.free a,?_⟩
  rw [j.r.free a]; exact b
 ·rcases j p with ⟨c,e⟩ | ⟨c,e⟩
  ·refine .inl ⟨c,?_⟩
   rw [b,e]
   cases z:h2 p with
   | none=>exact a.symm ▸ rfl
   | some w=>rfl
  ·refine .inr ⟨?_,by rw [b,e]⟩
   rw [c]; exact a
theorem OwAll.at:∀ {xs:List α}{vs:List V}{F h:Hp}(i:Nat) {x:α},OwAll O F xs vs h→xs[i]?=some x →
  ∃ v h1 h2,vs[i]?=some v∧Jn h1 h2 h∧O.O x v F h1∧∀ x' h1' h' F3,Same F F3→O.O x' v F3 h1'→Jn h1' h2 h'→OwAll O F3 (xs.set i x') vs h'
 | [],_,_,_,_,_,_,e=>by cases e
 | x::xs,[],_,_,_,_,q,_=>q.elim
 | x::xs,v::vs,F,h,0,y,⟨h1,h2,j,o,r⟩,e=>by
  cases e
  exact ⟨v,h1,h2,rfl,j,o,fun x' h1' h' F3 g o' j'=>⟨h1',h2,j',o',r.mono g⟩⟩
 | x::xs,v::vs,F,h,i+1,y,⟨h1,h2,j,o,r⟩,e=>by
  obtain ⟨w,k1,k2,e1,j1,o1,f⟩:=OwAll.at i r (by simpa using e)
  obtain ⟨m,jm,jh⟩:=zdM_ j1 (zjS_ j)
  refine ⟨w,k1,m,by simpa using e1,jh,o1,fun x' k1' h' F3 g o' j'=>?_⟩
  have d:Dj k1' k2:=fun p=>by
   rcases j'.dj p with z | z
   ·exact .inl z
   ·exact .inr (jm.l.free z)
  refine ⟨h1,un k1' k2,?_,O.mono g o,f x' k1' _ F3 g o' (zdN_ d)⟩
  intro p
  rcases j' p with ⟨a,b⟩ | ⟨a,b⟩
  ·rcases jm p with ⟨c,e⟩ | ⟨c,e⟩
   ·right
    refine ⟨by unfold un; rw [a,c],by rw [b,e]⟩
   ·left
    refine ⟨c,by unfold un; rw [a,b,e]⟩
  ·left
   refine ⟨jm.r.free a,?_⟩
   unfold un
   rw [b]
   cases z:k1' p with
   | none=>exact (jm.l.free a).symm ▸ rfl
   | some w=>rfl
theorem OwAll.snoc:∀ {xs:List α}{vs:List V}{F h:Hp}{x:α}{v:V}{hn:Hp},OwAll O F xs vs h→O.O x v F hn→Dj h hn→OwAll O F (xs++[x]) (vs++[v]) (un h hn)
 | [],[],F,h,x,v,hn,q,o,d=>by
  refine ⟨hn,fun _=>none,fun p=>.inr ⟨rfl,?_⟩,o,fun _=>rfl⟩
  unfold un; rw [q p]
 | y::xs,w::vs,F,h,x,v,hn,⟨h1,h2,j,o1,r⟩,o,d=>by
  obtain ⟨m,jm,jh⟩:=zdM_ j (zdN_ d)
  have d2:Dj h2 hn:=jm.dj
  have e:m=un h2 hn:=by
   funext p
   unfold un
   rcases jm p with ⟨a,b⟩ | ⟨a,b⟩
   ·rw [a]; exact b
   ·rw [b]
    cases z:h2 p with
    | none=>exact a.symm ▸ rfl
    | some w=>rfl
  rw [e] at jh
  exact ⟨h1,_,jh,o1,r.snoc o d2⟩
 | [],_::_,_,_,_,_,_,q,_,_=>q.elim
 | _::_,[],_,_,_,_,_,q,_,_=>q.elim
noncomputable abbrev owLO (O:Own α):Own (List α):=⟨fun xs v F h=>∃ p vs h2,v=.ref p∧Jn (one p (.lst vs)) h2 h∧OwAll O F xs vs h2,tyL O.fr,fun g ⟨p,vs,h2,e,j,q⟩=>⟨p,vs,h2,e,j,q.mono g⟩,
 fun {a v F h} d ⟨p,vs,h2,e,j,q⟩=>⟨p,vs,e,zhv_ d _ _ (j.l _ _ zbk_),q.prs (fun b=>by
  rcases d b with z | z
  ·exact .inl z
  ·exact .inr (j.r.free z)) (zew_ d j.r)⟩,
 fun ⟨p,vs,h2,e,j,q⟩ b xs y=>by
  rcases j b with ⟨_,z⟩ | ⟨_,z⟩
  ·rw [z] at y; exact q.notup b xs y
  ·rw [z] at y; unfold one at y; split at y<;>cases y⟩
theorem zbe_ (i:ImmO O):ImmO (owLO O):=fun g ⟨p,vs,h2,e,j,q⟩=>⟨p,vs,h2,e,j,q.imm i g⟩
end
section
variable {K:PySem.W.Frag}{E:XK}{α β γ ρ S B:Type}{F0 H0 F h H:Hp}{L:List Sl}{e te ei:TE}{T:Ty α}{r:Mo α}{Or:Own ρ}{u:TS}{LS:S→List Sl}{LB:B→List Sl}{σ:St}
noncomputable def Foc (F0 H0:Hp) (σ:St) (h F1:Hp) (O':Own β) (y:β) (u:V) (LF:β→List Sl):Prop :=
 ∀ F2 H2,Same F1 F2→Okk F0 H0 F2 h H2→∃ k,O'.O y u F2 k∧Same k h ∧
  ∀ y' k' F3 H3,PutC F2 H2 h H0 k k' F3 H3→O'.O y' u F3 k'→∃ h',Hold (LF y') σ F3 h'∧Okk F0 H0 F3 h' H3
theorem zkG_ {O:Own α}{x:α}{i:Nat}(hL:Hold L σ F h) (hi:L[i]?=some (.ow O x)):∃ v,σ[i]?=some (some v)∧Foc F0 H0 σ h F O x v (fun x'=>L.set i (.ow O x')):=by
 obtain ⟨o,_,_,e1,_,⟨v,e2,_⟩,_⟩:=hL.at i hi
 subst e2
 refine ⟨v,e1,fun F2 H2 s ok=>?_⟩
 obtain ⟨v',k,e1',ho,_,kh,_,g⟩:=zhZ_ (hL.mono s) hi ok
 rw [e1] at e1'; cases e1'
 refine ⟨k,ho,kh,fun y' k' F3 H3 a b=>?_⟩
 obtain ⟨h',a1,a2⟩:=g O y' v k' F3 H3 a b
 rw [zb2_ e1] at a1
 exact ⟨h',a1,a2⟩
theorem Foc.part {O:Own α}{O':Own β}{F1:Hp}{y:α}{z:β}{w u:V}{LF:α→List Sl}{put:β→α}(f:Foc F0 H0 σ h F1 O y u LF)
  (pt:∀ F2 k,Same F1 F2→Same k h→O.O y u F2 k→∃ k1 k2,Jn k1 k2 k∧O'.O z w F2 k1∧∀ z' k1' k' F3,Same F2 F3→O'.O z' w F3 k1'→Jn k1' k2 k'→O.O (put z') u F3 k'):Foc F0 H0 σ h F1 O' z w (fun z'=>LF (put z')):=by
 intro F2 H2 s ok
 obtain ⟨k,ho,kh,g⟩:=f F2 H2 s ok
 obtain ⟨k1,k2,j,ho',pp⟩:=pt F2 k s kh ho
 refine ⟨k1,ho',j.l.trans kh,fun z' k1' F3 H3 P hz=>?_⟩
 have d:Dj k1' k2:=fun q=>by
  by_cases w1:k1' q=none
  ·exact .inl w1
  ·right
   by_cases w2:k1 q=none
   ·exact (j.r.trans kh).free (P.fr q w2 w1).1
   ·rcases j.dj q with y | y
    ·exact absurd y w2
    ·exact y
 have k2h:∀ {q o},k2 q=some o→k1 q=none∧H3 q=some o:=fun {q o} e=>by
  have y1:k1 q=none:=by
   rcases j.dj q with y1 | y1
   ·exact y1
   ·rw [y1] at e; cases e
  exact ⟨y1,P.ol q o (by rw [zS_ y1]; exact ok.2.2.1 _ _ (kh _ _ (j.r _ _ e)))⟩
 refine g (put z') (un k1' k2) F3 H3 ⟨P.ff,P.fh,fun q o e=>?_,(fun q a b=>(P.nw q a b).imp id fun z w=>z (j.l.free w)),fun q o e=>?_,fun q=>?_,fun q a1 a2=>?_⟩ (pp z' k1' _ F3 P.ff hz (zdN_ d))
 ·unfold less at e
  split at e
  ·rename_i y; exact P.ol q o (by rw [zS_ (j.l.free y)]; exact e)
  ·cases e
 ·unfold un at e
  cases y:k1' q with
  | some s=>rw [y] at e; rw [P.kh q s y]; exact e
  | none=>rw [y] at e; exact (k2h e).2
 ·unfold un
  cases y:k1' q with
  | some s =>
   rcases P.dj q with d | d
   ·exact .inl d
   ·rw [d] at y; cases y
  | none =>
   cases e:k2 q with
   | none=>exact .inr rfl
   | some s =>
    left
    have hq:h q=some s:=kh _ _ (j.r _ _ e)
    have Fq:F2 q=none:=by
     rcases ok.2.1 q with d | d
     ·exact d
     ·rw [d] at hq; cases hq
    by_cases w3:F3 q=none
    ·exact w3
    ·rcases P.nw q Fq w3 with d | d
     ·rw [ok.2.2.1 _ _ hq] at d; cases d
     ·exact absurd (k2h e).1 d
 ·unfold un at a2
  have y2:k2 q=none:=j.r.free a1
  have y:k1' q≠none:=fun y=>by rw [y] at a2; exact a2 y2
  exact P.fr q (j.l.free a1) y
noncomputable def EvPt (K:PySem.W.Frag) (te:TE) (E:XK) (L:List Sl) (i:Nat) (O:Own α) (O':Own β) (r:Mo (β×(β→α))):Prop :=
 ∀ F0 H0 σ F h H (Q:VK),Hold L σ F h→Okk F0 H0 F h H→After K r E (un F h) H (fun yp G1 H1=>∀ u,Foc F0 H0 σ h (less G1 h) O' yp.1 u (fun z=>L.set i (.ow O (yp.2 z)))→Q u H1)→te σ H Q
theorem zes_ {O:Own α}{x:α}{i:Nat}(hi:L[i]?=some (.ow O x)):EvPt K (mVar i) E L i O O (.ok (x,fun z=>z)):=by
 intro F0 H0 σ F h H Q hL ok q
 obtain ⟨o,hs,_⟩:=ok.back (Ext.refl ok.thaw)
 obtain ⟨v,ev,fc⟩:=zkG_ (F0:=F0) (H0:=H0) (hL.mono hs) hi
 exact zcl_ ev (q.ok ok.thaw v fc)
theorem zjV_ {O:Own β}{p:Addr}{xs:List β}{n:Nat}{y:β}{vs:List V}{w:V}(hv:h p=some (.lst vs)) (hw:vs[n]?=some w) (e:xs[n]?=some y) :
  ∀ F2 k,Same k h→(owLO O).O xs (.ref p) F2 k→∃ k1 k2,Jn k1 k2 k∧O.O y w F2 k1∧∀ y' k1' k' F3,Same F2 F3→O.O y' w F3 k1'→Jn k1' k2 k'→(owLO O).O (xs.set n y') (.ref p) F3 k':=by
 rintro F2 k kh ⟨p',vs',k2,ep,j,all⟩
 cases ep
 have ev:vs'=vs:=by
  have:=kh _ _ (j.l _ _ zbk_)
  rw [hv] at this
  injection this with this
  injection this with this
  exact this.symm
 subst ev
 obtain ⟨w',a1,a2,e1,j1,o1,f⟩:=all.at n e
 rw [hw] at e1; cases e1
 obtain ⟨m,jm,jk⟩:=zdM_ j1 (zjS_ j)
 refine ⟨a1,m,jk,o1,fun y' k1' k' F3 g o' j'=>?_⟩
 have d:Dj k1' a2:=fun q=>by
  rcases j'.dj q with z | z
  ·exact .inl z
  ·exact .inr (jm.l.free z)
 refine ⟨p,vs',un k1' a2,rfl,?_,f y' k1' _ F3 g o' (zdN_ d)⟩
 intro q
 rcases j' q with ⟨a,b⟩ | ⟨a,b⟩
 ·rcases jm q with ⟨c,e⟩ | ⟨c,e⟩
  ·right
   refine ⟨by unfold un; rw [a,c],by rw [b,e]⟩
  ·left
   refine ⟨c,by unfold un; rw [a,b,e]⟩
 ·left
  refine ⟨jm.r.free a,?_⟩
  unfold un
  rw [b]
  cases z:k1' q with
  | none=>exact (jm.l.free a).symm ▸ rfl
  | some w=>rfl
theorem zeT_ {G1 G2 h:Hp}(s:Same G1 G2):Same (less G1 h) (less G2 h):=fun p o e=>by
 unfold less at e ⊢
 split at e
 ·exact s _ _ e
 ·cases e
theorem zot_ {O:Own α}{O':Own β}{i:Nat}{r:Mo (List β×(List β→α))}{rj:Mo Int}(hp:EvPt K te E L i O (owLO O') r) (hj:EvF K ei E L rj tyInt) :
  EvPt K (tOp (mIx K) te ei) E L i O O' (r.bind fun yp=>rj.bind fun j=>(Mo.opt (ixN yp.1.length j)).bind fun n=>(Mo.opt (yp.1[n]?)).bind fun z=>.ok (z,fun z'=>yp.2 (yp.1.set n z'))):=by
 intro F0 H0 σ F h H Q hL ok q
 refine hp F0 H0 σ F h H _ hL ok (q.bind.imp fun yp G1 H1 x1 k1 u fc=>?_)
 refine hj σ G1 H1 _ ((hL.froz ok.2.1).mono x1.1) x1.2.1 (k1.bind.imp fun j G2 H2 x2 k2 v2 hv2=>?_)
 cases hv2
 obtain ⟨n,en,k3⟩:=k2.bind.opt
 obtain ⟨z,ez,k4⟩:=(k3.ok x2.2.1).bind.opt
 have k5:=(k4.ok x2.2.1).ok x2.2.1
 obtain ⟨o2,_,_⟩:=ok.back (x1.trans x2)
 obtain ⟨k,⟨p,vs,m,rfl,jn,all⟩,kh,_⟩:=fc (less G2 h) H2 (zeT_ x2.1) o2
 have hp1:h p=some (.lst vs):=kh _ _ (jn.l _ _ zbk_)
 refine ⟨vs,.inl (.of (o2.2.2.1 _ _ hp1)),?_⟩
 have hl:=all.len
 have hn:=zkE_ en
 have hw:vs[n]?=some vs[n]:=List.getElem?_eq_getElem (by omega)
 have en':ixN vs.length j=some n:=by rw [← hl]; exact en
 have ea:atI vs j=some vs[n]:=by unfold atI; rw [en']; exact hw
 rw [ea]
 refine k5 _ (Foc.part (O:=owLO O') (y:=yp.1) (put:=fun z'=>yp.1.set n z') (LF:=fun y'=>L.set i (.ow O (yp.2 y'))) (u:=.ref p) (fun F2 H3 s ok=>fc F2 H3 ((zeT_ x2.1).trans s) ok) fun F2 k s kh ho=>?_)
 exact zjV_ hp1 hw ez F2 k kh ho
end
end L2
namespace L2
open PySem PySem.Spec PyProof.Rows
noncomputable def mFld (C:Addr) (te:TE) (f:Str):TE:=fun σ H Q=>te σ H fun x H1=>match x with
 | .ref a=>∃ dx fs v,H1 a=some (.ins C dx fs)∧fs.lookup f=some v∧Q v H1
 | _=>False
noncomputable def mSFld (C:Addr) (te tv:TE) (f:Str):TS:=fun D σ H=>tv σ H fun y H1=>te σ H1 fun x H2=>match x with
 | .ref a=>∃ dx fs,H2 a=some (.ins C dx fs)∧fs.length<1000∧D.nx σ (upd H2 a (.ins C dx (putF f y fs)))
 | _=>False
noncomputable def Gm (P:Program) (w:World) (K:PySem.W.Frag) (mg:Str→Option Value) (base:Heap) (CX:CXT) (k:Nat) (C:Addr) (m:Str) (ps:List Str) (sp:Sp):Prop :=
 ∃ f fd,FnOk P w K mg base CX k f fd ps sp∧Cls K C∧Meth K C m f∧Binds K fd ps []
noncomputable def Gk (P:Program) (w:World) (K:PySem.W.Frag) (mg:Str→Option Value) (base:Heap) (CX:CXT) (k:Nat) (x:Str) (C:Addr) (ps:List Str) (sp:Sp):Prop :=
 ∃ f fd,FnOk P w K mg base CX k f fd ps sp∧Mk K C f∧mg x=some (.ref C)∧Binds K fd ps []
section
variable {X:Cx}{e value o:Expr}{es:List Expr}{f m x:Str}{p pos pos' apos:Pos}{ta tv:TE}{t:TA}{C:Addr}{k:Nat}{ps:List Str}{sp:Sp}
theorem zaO_ (c:Cls X.K C) (n:NoAttr X.K C f) (he:PE X e ta) (hb:attributeBase e f X.env (eval e X.env)=eval e X.env:=by rfl):PE X (.Attribute e f pos) (mFld C ta f):=by
 intro pins s σ H Q I h
 refine zo2_ hb (thn (he pins s σ H _ I h) fun u s1 ⟨x,H1,I1,rx,q1⟩=>?_)
 cases x with
 | ref a =>
  obtain ⟨dx,fs,v,ea,l,q⟩:=q1
  obtain rfl:u=Value.ref a:=rx
  exact zkf_ I1 ea c n l fun u' s2 I2 ru=>⟨v,H1,I2,ru,q⟩
 | _=>exact q1.elim
theorem zb3_ (c:Cls X.K C) (n:NoAttr X.K C f) (ha:PE X o ta) (hv:PE X value tv) (hs:swapsWith value (some (.Attribute o f pos')) pos.line X.env=pure false:=by rfl):PS X (.Assign [.Attribute o f pos'] value pos) (mSFld C ta tv f):=by
 intro pins s σ H D I h
 refine plainObj_wpAny_Assign_Attribute (thn (hv pins s σ H _ I h) fun u s1 ⟨y,H1,I1,ry,q⟩=>thn (ha pins s1 σ H1 _ I1 q) fun ov s2 ⟨x,H2,I2,rx,q2⟩=>?_) hs
 cases x with
 | ref a =>
  obtain ⟨dx,fs,ea,l,q3⟩:=q2
  obtain rfl:ov=Value.ref a:=rx
  exact zkH_ I2 ea c n l ry fun s3 I3=>⟨σ,_,I3,q3⟩
 | _=>exact q2.elim
theorem zcd_ {pl:Sem Bool}(G:Gm X.prog X.w X.K X.mg X.base CX0 k C m ps sp) (hr:Room k X.A) (he:PE X o ta) (ha:PA X (e::es) t)
  (hst:starEach (e::es) X.env=(false,eval e X.env)::starEach es X.env:=by rfl) (hpl:(backTo pos (starEach es X.env)).any (·.1)=false:=by rfl)
  (ht:eval (.Call (.Attribute o m apos) (e::es) [] pos) X.env=(do
   let ov ← eval o X.env
   standAt apos.atName
   let (f,first) ← holding [ov] (getMethod ov m pl)
   callWith pos f first (backTo pos (starEach (e::es) X.env)) (backToKw pos (keywordEach [] X.env))):=by rfl) :
  PE X (.Call (.Attribute o m apos) (e::es) [] pos) (tMeth C m sp [] E0 ta t):=by
 obtain ⟨f,fd,F,c,hm,hb⟩:=G
 exact zoS_ he c hm F hr hb .nil pass0 ha hst hpl ht
theorem zcM_ {pl:Sem Bool}(G:Gm X.prog X.w X.K X.mg X.base CX0 k C m ps sp) (hr:Room k X.A) (he:PE X o ta)
  (ht:eval (.Call (.Attribute o m apos) [] [] pos) X.env=(do
   let ov ← eval o X.env
   standAt apos.atName
   let (f,first) ← holding [ov] (getMethod ov m pl)
   callWith pos f first (backTo pos (starEach [] X.env)) (backToKw pos (keywordEach [] X.env))):=by rfl) :
  PE X (.Call (.Attribute o m apos) [] [] pos) (tMeth C m sp [] E0 ta tNil):=by
 obtain ⟨f,fd,F,c,hm,hb⟩:=G
 exact znt_ he c hm F hr hb .nil pass0 ht
theorem zjd_ (G:Gk X.prog X.w X.K X.mg X.base CX0 k x C ps sp) (hr:Room (k+1) X.A) (ha:PA X (e::es) t) (hg:Gl X x:=by rfl) (hdb:(x == ("__debug__" : Str))=false:=by decide)
  (he:starEach (e::es) X.env=(false,eval e X.env)::starEach es X.env:=by rfl) (hpl:(backTo pos (starEach es X.env)).any (·.1)=false:=by rfl) :
  PE X (.Call (.Name x p) (e::es) [] pos) (tMake C sp [] E0 t):=by
 obtain ⟨f,fd,F,M,hm,hb⟩:=G
 exact zoE_ M F hr hg hm hb .nil pass0 ha hdb he hpl
end
theorem zee_:∀ {ns:List Str}{vs:List V}{i:Nat}{f:Str}{v:V},ns.Nodup→ns[i]?=some f→vs[i]?=some v→(ns.zip vs).lookup f=some v
 | [],_,_,_,_,_,h,_=>by simp at h
 | n::ns,[],_,_,_,_,_,h=>by simp at h
 | n::ns,w::vs,0,f,v,_,h,h'=>by
  simp at h h'; subst h h'
  rw [List.zip_cons_cons,List.lookup_cons,beq_self_eq_true]
 | n::ns,w::vs,i+1,f,v,nd,h,h'=>by
  obtain ⟨h1,h2⟩:=List.nodup_cons.mp nd
  have hf:ns[i]?=some f:=by simpa using h
  have hne:(f == n)=false:=beq_eq_false_iff_ne.mpr fun z=>h1 (z ▸ List.mem_of_getElem? hf)
  rw [List.zip_cons_cons,List.lookup_cons,hne]
  exact zee_ h2 hf (by simpa using h')
theorem zbm_:∀ {ns:List Str}{vs:List V}{f:Str},f∉ns→(ns.zip vs).lookup f=none
 | [],_,_,_=>rfl
 | n::ns,[],_,_=>rfl
 | n::ns,w::vs,f,h=>by
  have hne:(f == n)=false:=beq_eq_false_iff_ne.mpr fun z=>h (z ▸ List.mem_cons_self ..)
  rw [List.zip_cons_cons,List.lookup_cons,hne]
  exact zbm_ fun z=>h (List.mem_cons_of_mem _ z)
theorem zj1_:∀ {ns:List Str}{vs:List V}{i:Nat}{f:Str}(v:V),ns.Nodup→ns[i]?=some f→i<vs.length→putF f v (ns.zip vs)=ns.zip (vs.set i v)
 | [],_,_,_,_,_,h,_=>by simp at h
 | n::ns,[],_,_,_,_,_,h=>by simp at h
 | n::ns,w::vs,0,f,v,_,h,_=>by
  simp at h; subst h
  rw [List.zip_cons_cons,putF,if_pos rfl]; rfl
 | n::ns,w::vs,i+1,f,v,nd,h,h'=>by
  obtain ⟨h1,h2⟩:=List.nodup_cons.mp nd
  have hf:ns[i]?=some f:=by simpa using h
  have hne:¬ n=f:=fun z=>h1 (z ▸ List.mem_of_getElem? hf)
  rw [List.zip_cons_cons,putF,if_neg hne,zj1_ v h2 hf (by simpa using h')]; rfl
theorem zhK_:∀ {ns:List Str}{vs:List V}{f:Str}(v:V),f∉ns→vs.length=ns.length→putF f v (ns.zip vs)=(ns++[f]).zip (vs++[v])
 | [],[],f,v,_,_=>rfl
 | [],_::_,_,_,_,h=>by simp at h
 | _::_,[],_,_,_,h=>by simp at h
 | n::ns,w::vs,f,v,h,hl=>by
  have hne:¬ n=f:=fun z=>h (z ▸ List.mem_cons_self ..)
  rw [List.zip_cons_cons,putF,if_neg hne,zhK_ v (fun z=>h (List.mem_cons_of_mem _ z)) (by simpa using hl)]; rfl
theorem zmg_:∀ {ns:List Str}{vs us:List V},vs.length=ns.length→us.length=ns.length→ns.zip vs=ns.zip us→vs=us
 | [],[],[],_,_,_=>rfl
 | n::ns,v::vs,u::us,h1,h2,e=>by
  rw [List.zip_cons_cons,List.zip_cons_cons] at e
  injection e with e1 e2
  injection e1 with _ e1
  rw [e1,zmg_ (by simpa using h1) (by simpa using h2) e2]
 | [],_::_,_,h,_,_=>by simp at h
 | [],[],_::_,_,h,_=>by simp at h
 | _::_,[],_,h,_,_=>by simp at h
 | _::_,_::_,[],_,h,_=>by simp at h
structure Ps (γ:Type) where
 P:γ→List V→Hp→Hp→Prop
 fr:Cs γ
 mono:∀ {c vs F F' h},Same F F'→P c vs F h→P c vs F' h
 frz:∀ {c vs F h},Dj F h→P c vs F h→fr.R c vs (un F h)
 notup:∀ {c vs F h},P c vs F h→∀ p xs,h p≠some (.tup xs)
section
variable {α β γ:Type}
theorem dj_l {F h1 h2 h:Hp}(d:Dj F h) (j:Jn h1 h2 h):Dj F h1:=fun p=>by
 rcases d p with z | z
 ·exact .inl z
 ·exact .inr (j.l.free z)
theorem dj_r {F h1 h2 h:Hp}(d:Dj F h) (j:Jn h1 h2 h):Dj F h2:=fun p=>by
 rcases d p with z | z
 ·exact .inl z
 ·exact .inr (j.r.free z)
noncomputable abbrev psNil:Ps Unit:=⟨fun _ vs _ h=>vs=[]∧∀ p,h p=none,csNil,fun _ q=>q,fun _ q=>q.1,fun q p xs z=>by rw [q.2 p] at z; cases z⟩
noncomputable abbrev psO (O:Own α) (P:Ps γ):Ps (α×γ):=⟨fun c vs F h=>∃ v us h1 h2,vs=v::us∧Jn h1 h2 h∧O.O c.1 v F h1∧P.P c.2 us F h2,csCons O.fr P.fr,
 fun g ⟨v,us,h1,h2,e,j,a,b⟩=>⟨v,us,h1,h2,e,j,O.mono g a,P.mono g b⟩,
 fun d ⟨v,us,h1,h2,e,j,a,b⟩=>⟨v,us,e,O.fr.mono (zew_ d j.l) (O.frz (dj_l d j) a),P.fr.mono (zew_ d j.r) (P.frz (dj_r d j) b)⟩,
 fun ⟨v,us,h1,h2,e,j,a,b⟩ p xs z=>by
  rcases j p with ⟨_,y⟩ | ⟨_,y⟩
  ·rw [y] at z; exact P.notup b p xs z
  ·rw [y] at z; exact O.notup a p xs z⟩
noncomputable def two (p dx:Addr) (o:HO):Hp:=fun q=>if q=p then some o else if q=dx then some (.own p) else none
theorem ziH_ {p dx:Addr}{o:HO}:two p dx o p=some o:=if_pos rfl
theorem zmN_ {p dx:Addr}{o:HO}(h:dx≠p):two p dx o dx=some (.own p):=by unfold two; rw [if_neg h,if_pos rfl]
theorem znJ_ {p dx q:Addr}{o:HO}(h:two p dx o q=none):q≠p∧q≠dx:=by
 refine ⟨fun e=>?_,fun e=>?_⟩
 ·rw [e,ziH_] at h; cases h
 ·unfold two at h; split at h
  ·cases h
  ·first | cases h | (rw [if_pos e] at h; cases h)
noncomputable abbrev tyI (C:Addr) (ns:List Str) (Q:Cs γ):Ty γ:=⟨fun c v H=>∃ p dx vs,v=.ref p∧H p=some (.ins C dx (ns.zip vs))∧vs.length=ns.length∧Q.R c vs H,fun g ⟨p,dx,vs,e,h,l,q⟩=>⟨p,dx,vs,e,g _ _ h,l,Q.mono g q⟩⟩
noncomputable abbrev owI (C:Addr) (ns:List Str) (P:Ps γ):Own γ:=⟨fun c v F h=>∃ p dx vs k,v=.ref p∧dx≠p∧Jn (two p dx (.ins C dx (ns.zip vs))) k h∧vs.length=ns.length∧P.P c vs F k,tyI C ns P.fr,
 fun g ⟨p,dx,vs,k,e,n,j,l,q⟩=>⟨p,dx,vs,k,e,n,j,l,P.mono g q⟩,
 fun d ⟨p,dx,vs,k,e,n,j,l,q⟩=>⟨p,dx,vs,e,zhv_ d _ _ (j.l _ _ ziH_),l,P.fr.mono (zew_ d j.r) (P.frz (dj_r d j) q)⟩,
 fun ⟨p,dx,vs,k,e,n,j,l,q⟩ b xs y=>by
  rcases j b with ⟨_,z⟩ | ⟨_,z⟩
  ·rw [z] at y; exact P.notup q b xs y
  ·rw [z] at y; unfold two at y; split at y
   ·cases y
   ·split at y<;>cases y⟩
noncomputable abbrev owAt (u:V) (O:Own α):Own α:=⟨fun a v F h=>v=u∧O.O a v F h,O.fr,fun g q=>⟨q.1,O.mono g q.2⟩,fun d q=>O.frz d q.2,fun q=>O.notup q.2⟩
noncomputable def PsAt (P:Ps γ) (n:Nat) (O:Own β) (pr:γ→β) (st:γ→β→γ):Prop:=∀ {c vs F h},P.P c vs F h→∃ v h1 h2,vs[n]?=some v∧Jn h1 h2 h∧O.O (pr c) v F h1∧∀ z' h1' h' F3,Same F F3→O.O z' v F3 h1'→Jn h1' h2 h'→P.P (st c z') vs F3 h'
theorem zpR_ {O:Own β}{P:Ps γ}:PsAt (psO O P) 0 O (fun c=>c.1) (fun c z=>(z,c.2)):=fun ⟨v,us,h1,h2,e,j,a,b⟩=>by
 subst e
 exact ⟨v,h1,h2,rfl,j,a,fun z' h1' h' F3 g o' j'=>⟨v,us,h1',h2,rfl,j',o',P.mono g b⟩⟩
theorem zpg_ {b t m a h:Hp}(jm:Jn b t m) (j:Jn a m h):Jn t (un a b) h:=fun q=>by
 rcases j q with ⟨x,y⟩ | ⟨x,y⟩
 ·rcases jm q with ⟨c,e⟩ | ⟨c,e⟩
  ·right
   refine ⟨by unfold un; rw [x,c],by rw [y,e]⟩
  ·left
   refine ⟨c,by unfold un; rw [x,y,e]⟩
 ·left
  refine ⟨jm.r.free x,?_⟩
  unfold un
  rw [y]
  cases z:a q with
  | none=>exact (jm.l.free x).symm ▸ rfl
  | some w=>rfl
theorem zpd_ {a b t m h:Hp}(jm:Jn b t m) (j:Jn a m h):Dj a b:=fun q=>by
 rcases j.dj q with z | z
 ·exact .inl z
 ·exact .inr (jm.l.free z)
theorem zjt_ {O:Own α}{O':Own β}{P:Ps γ}{n:Nat}{pr:γ→β}{st:γ→β→γ}(h:PsAt P n O' pr st):PsAt (psO O P) (n+1) O' (fun c=>pr c.2) (fun c z=>(c.1,st c.2 z)):=fun ⟨v,us,h1,h2,e,j,a,b⟩=>by
 subst e
 obtain ⟨w,k1,k2,e1,j1,o1,f⟩:=h b
 obtain ⟨m,jm,jh⟩:=zdM_ j1 (zjS_ j)
 refine ⟨w,k1,m,by simpa using e1,jh,o1,fun z' k1' h' F3 g o' j'=>?_⟩
 exact ⟨v,us,h1,un k1' k2,rfl,zpg_ jm j',O.mono g a,f z' k1' _ F3 g o' (zdN_ (zpd_ jm j'))⟩
noncomputable def PsPut (P:Ps γ) (n:Nat) (O:Own β) (st:γ→β→γ):Prop:=∀ {c vs F h},P.P c vs F h→n<vs.length∧∃ h2,Same h2 h∧∀ z' v' h1' h' F3,Same F F3→O.O z' v' F3 h1'→Jn h1' h2 h'→P.P (st c z') (vs.set n v') F3 h'
theorem zjv_ {O:Own β}{P:Ps γ}:PsPut (psO O P) 0 O (fun c z=>(z,c.2)):=fun ⟨v,us,h1,h2,e,j,a,b⟩=>by
 subst e
 exact ⟨by simp,h2,j.r,fun z' v' h1' h' F3 g o' j'=>⟨v',us,h1',h2,rfl,j',o',P.mono g b⟩⟩
theorem zdW_ {O:Own α}{O':Own β}{P:Ps γ}{n:Nat}{st:γ→β→γ}(h:PsPut P n O' st):PsPut (psO O P) (n+1) O' (fun c z=>(c.1,st c.2 z)):=fun ⟨v,us,h1,h2,e,j,a,b⟩=>by
 subst e
 obtain ⟨hn,k2,ks,f⟩:=h b
 have d:Dj k2 h1:=fun q=>by
  rcases j.dj q with z | z
  ·exact .inr z
  ·exact .inl (ks.free z)
 refine ⟨by simpa using hn,un k2 h1,fun q o z=>?_,fun z' v' k1' h' F3 g o' j'=>?_⟩
 ·unfold un at z
  cases y:k2 q with
  | some w=>rw [y] at z; rw [← z]; exact j.r _ _ (ks _ _ y)
  | none=>rw [y] at z; exact j.l _ _ z
 ·exact ⟨v,us.set n v',h1,un k1' k2,rfl,zpg_ (zdN_ d) j',O.mono g a,f z' v' k1' _ F3 g o' (zdN_ (zpd_ (zdN_ d) j'))⟩
noncomputable def PsAdd (P:Ps γ) (O:Own β) {δ:Type}(P':Ps δ) (ad:γ→β→δ):Prop:=∀ {c vs F h},P.P c vs F h→∀ z v' h1' h' F3,Same F F3→O.O z v' F3 h1'→Jn h1' h h'→P'.P (ad c z) (vs++[v']) F3 h'
theorem zfJ_ {O:Own β}:PsAdd psNil O (psO O psNil) (fun _ z=>(z,())):=fun q z v' h1' h' F3 g o' j'=>by
 rw [q.1]
 exact ⟨v',[],h1',_,rfl,j',o',rfl,q.2⟩
theorem zcc_ {O:Own α}{O':Own β}{P:Ps γ}{δ:Type}{P':Ps δ}{ad:γ→β→δ}(h:PsAdd P O' P' ad):PsAdd (psO O P) O' (psO O P') (fun c z=>(c.1,ad c.2 z)):=fun ⟨v,us,h1,h2,e,j,a,b⟩ z v' k1' h' F3 g o' j'=>by
 subst e
 have jm:Jn h2 h1 _:=zjS_ j
 exact ⟨v,us++[v'],h1,un k1' h2,rfl,zpg_ jm j',O.mono g a,h b z v' k1' _ F3 g o' (zdN_ (zpd_ jm j'))⟩
end
section
variable {K:PySem.W.Frag}{E:XK}{α β γ δ ρ S B:Type}{F0 H0 F h H:Hp}{L:List Sl}{e te ei:TE}{T:Ty α}{r:Mo α}{Or:Own ρ}{u:TS}{LS:S→List Sl}{LB:B→List Sl}{σ:St}{C:Addr}{ns:List Str}{f:Str}{i n:Nat}
theorem zb4_ {Q:Cs γ}{pr:γ→α}{r:Mo γ}(nd:ns.Nodup) (hf:ns[n]?=some f) (ha:CsAt Q n T pr) (he:EvF K te E L r (tyI C ns Q)):EvF K (mFld C te f) E L (r.bind fun c=>.ok (pr c)) T:=by
 intro σ F H R hL hs q
 refine he σ F H _ hL hs (q.bind.imp fun c F1 H1 x1 k1 v ⟨p,dx,vs,e,hp,hl,hc⟩=>?_)
 subst e
 obtain ⟨w,ew,rw'⟩:=ha hc
 exact ⟨dx,_,w,x1.2.1 _ _ hp,zee_ nd hf ew,k1.ok x1.2.1 w rw'⟩
theorem ziM_ {O:Own α}{O':Own β}{w:V}{r:Mo (β×(β→α))}(hp:EvPt K te E L i O (owAt w O') r):EvPt K te E L i O O' r:=by
 intro F0 H0 σ F h H Q hL ok q
 refine hp F0 H0 σ F h H _ hL ok (q.imp fun yp G1 H1 x1 k1 u fc=>k1 u fun F2 H2 s o2=>?_)
 obtain ⟨k,⟨e,ho⟩,kh,g⟩:=fc F2 H2 s o2
 exact ⟨k,ho,kh,fun y' k' F3 H3 P hy=>g y' k' F3 H3 P ⟨e,hy⟩⟩
theorem zoW_ {P:Ps γ}{O':Own β}{pr:γ→β}{st:γ→β→γ}{p dx:Addr}{vs:List V}{w:V}{c:γ}(pa:PsAt P n O' pr st) (hv:h p=some (.ins C dx (ns.zip vs))) (hl:vs.length=ns.length) (hw:vs[n]?=some w) :
  ∀ F2 k,Same k h→(owI C ns P).O c (.ref p) F2 k→∃ k1 k2,Jn k1 k2 k∧O'.O (pr c) w F2 k1∧∀ y' k1' k' F3,Same F2 F3→O'.O y' w F3 k1'→Jn k1' k2 k'→(owI C ns P).O (st c y') (.ref p) F3 k':=by
 rintro F2 k kh ⟨p',dx',vs',m,ep,ndx,j,hl',ps⟩
 cases ep
 have ev:=kh _ _ (j.l _ _ ziH_)
 rw [hv] at ev
 injection ev with ev
 injection ev with _ e1 e2
 subst e1
 have ev:=zmg_ hl hl' e2
 subst ev
 obtain ⟨w',a1,a2,e3,j1,o1,g⟩:=pa ps
 rw [hw] at e3; cases e3
 obtain ⟨mm,jm,jk⟩:=zdM_ j1 (zjS_ j)
 refine ⟨a1,mm,jk,o1,fun y' k1' k' F3 s o' j'=>?_⟩
 exact ⟨p,dx,vs,un k1' a2,rfl,ndx,zpg_ jm j',hl,g y' k1' _ F3 s o' (zdN_ (zpd_ jm j'))⟩
theorem zoY_ {O:Own α}{P:Ps γ}{O':Own β}{pr:γ→β}{st:γ→β→γ}{r:Mo (γ×(γ→α))}(nd:ns.Nodup) (hf:ns[n]?=some f) (pa:PsAt P n O' pr st) (hp:EvPt K te E L i O (owI C ns P) r) :
  EvPt K (mFld C te f) E L i O O' (r.bind fun yp=>.ok (pr yp.1,fun z'=>yp.2 (st yp.1 z'))):=by
 intro F0 H0 σ F h H Q hL ok q
 refine hp F0 H0 σ F h H _ hL ok (q.bind.imp fun yp G1 H1 x1 k1 u fc=>?_)
 obtain ⟨o1,_,_⟩:=ok.back x1
 obtain ⟨k,⟨p,dx,vs,m,rfl,ndx,jn,hl,ps⟩,kh,_⟩:=fc _ H1 (Same.refl _) o1
 have hp1:h p=some (.ins C dx (ns.zip vs)):=kh _ _ (jn.l _ _ ziH_)
 obtain ⟨w,_,_,ew,_⟩:=pa ps
 refine ⟨dx,_,w,o1.2.2.1 _ _ hp1,zee_ nd hf ew,?_⟩
 exact k1.ok x1.2.1 w (Foc.part (put:=st yp.1) (LF:=fun y'=>L.set i (.ow O (yp.2 y'))) fc fun F2 k s kh ho=>zoW_ pa hp1 hl ew F2 k kh ho)
theorem zjy_ {p dx:Addr}{o o':HO}{m h2 hn:Hp}{k:Hp}(ok:Okk F0 H0 F h H) (kh:Same k h) (ndx:dx≠p) (jn:Jn (two p dx o) m k) (h2m:Same h2 m) (fresh:∀ q,hn q≠none→F q=none∧h q=none∧H0 q=none) (hs:Same hn H) (dn:Dj hn h2) :
  Jn (two p dx o') (un hn h2) (un (two p dx o') (un hn h2))∧PutC F H h H0 k (un (two p dx o') (un hn h2)) F (upd H p o'):=by
 have hnk:∀ q,hn q≠none→k q=none:=fun q z=>kh.free (fresh q z).2.1
 have kp:k p=some o:=jn.l _ _ ziH_
 have kdx:k dx=some (.own p):=jn.l _ _ (zmN_ ndx)
 have m0:∀ q,two p dx o q≠none→m q=none:=fun q z=>by
  rcases jn.dj q with y | y
  ·exact absurd y z
  ·exact y
 have two_ne:∀ {o:HO}{q},two p dx o q≠none→q=p∨q=dx:=fun {o q} z=>by
  by_cases a:q=p
  ·exact .inl a
  ·by_cases b:q=dx
   ·exact .inr b
   ·exact absurd (by unfold two; rw [if_neg a,if_neg b]) z
 have dj:Dj (two p dx o') (un hn h2):=fun q=>by
  by_cases z:two p dx o' q=none
  ·exact .inl z
  ·right
   have kq:k q≠none:=by
    rcases two_ne z with e | e
    ·rw [e,kp]; exact Option.some_ne_none _
    ·rw [e,kdx]; exact Option.some_ne_none _
   have hq:hn q=none:=by
    by_cases y:hn q=none
    ·exact y
    ·exact absurd (hnk q y) kq
   have mq:m q=none:=m0 q (by
    rcases two_ne z with e | e
    ·rw [e,ziH_]; exact Option.some_ne_none _
    ·rw [e,zmN_ ndx]; exact Option.some_ne_none _)
   unfold un; rw [hq]; exact h2m.free mq
 refine ⟨zdN_ dj,PutC.same ok kh (fun q s z=>?_) (fun q z1 z2=>zaT_ fun e=>?_) fun q z1 z2=>?_⟩
 ·unfold un at z
  cases y:two p dx o' q with
  | some w =>
   rw [y] at z
   by_cases e:q=p
   ·rw [e,ziH_] at y; rw [e,zaY_,y]; exact z
   ·rw [zaT_ e]
    have e2:q=dx:=by
     rcases two_ne (o:=o') (q:=q) (by rw [y]; exact Option.some_ne_none _) with a | a
     ·exact absurd a e
     ·exact a
    rw [e2,zmN_ ndx] at y
    rw [← z,← y,e2]; exact ok.2.2.1 _ _ (kh _ _ kdx)
  | none =>
   rw [y] at z
   have e:=(znJ_ y).1
   rw [zaT_ e]
   cases x:hn q with
   | some w=>rw [x] at z; rw [← z]; exact hs _ _ x
   | none=>rw [x] at z; exact ok.2.2.1 _ _ (kh _ _ (jn.r _ _ (h2m _ _ z)))
 ·rw [e,kp] at z1; cases z1
 ·have e1:two p dx o' q=none:=by
   by_cases y:two p dx o' q=none
   ·exact y
   ·rcases two_ne y with e | e
    ·rw [e,kp] at z1; cases z1
    ·rw [e,kdx] at z1; cases z1
  have e2:h2 q=none:=h2m.free (jn.r.free z1)
  have eu:un (two p dx o') (un hn h2) q=hn q:=by
   unfold un; rw [e1]
   cases x:hn q with
   | some w=>rfl
   | none=>exact e2
  rw [eu] at z2 ⊢
  obtain ⟨a,b,c⟩:=fresh q z2
  refine ⟨a,b,c,?_⟩
  cases x:hn q with
  | none=>exact absurd x z2
  | some w=>exact hs _ _ x
theorem zpP_ {O:Own β}{P:Ps γ}{st:γ→α→γ}{r0:Mo (γ×(γ→β))}{k:β→Mo (Out ρ B S)}(nd:ns.Nodup) (hf:ns[n]?=some f) (hsm:ns.length<1000) (pp:PsPut P n (owF T) st) (hT:Imm T) (he:EvF K e E L r T) (hp:EvPt K te E L i O (owI C ns P) r0) (hk:∀ x',EvS K u E (L.set i (.ow O x')) (k x') LS LB Or) :
  EvS K (tSeq (mSFld C te e f) u) E L (r.bind fun a=>r0.bind fun yp=>k (yp.2 (st yp.1 a))) LS LB Or:=by
 intro F0 H0 σ F h H D hL ok fin
 refine he σ (un F h) H _ (hL.froz ok.2.1) ok.thaw (zby_ (G:=F) ok _ (.inl rfl) fin fun a F' H' hra x v hv=>?_)
 obtain ⟨o,hs,ht⟩:=ok.back x
 rw [hra] at fin
 refine hp F0 H0 σ (less F' h) h H' _ (hL.mono hs) o (zby_ (G:=F) o _ (.inl rfl) fin fun yp G1 H1 hr0 x1 u0 fc=>?_)
 obtain ⟨o1,hs1,_⟩:=o.back x1
 rw [hr0] at fin
 obtain ⟨k0,⟨p,dx,vs,m,rfl,ndx,jn,hl,ps⟩,kh,g⟩:=fc _ H1 (Same.refl _) o1
 obtain ⟨hn,h2,h2m,pf⟩:=pp ps
 have hp1:H1 p=some (.ins C dx (ns.zip vs)):=o1.2.2.1 _ _ (kh _ _ (jn.l _ _ ziH_))
 refine ⟨dx,_,hp1,by rw [List.length_zip]; omega,?_⟩
 rw [zj1_ v nd hf hn]
 have nul:∀ q,(fun _:Addr=>(none:Option HO)) q≠none→less G1 h q=none∧h q=none∧H0 q=none:=fun q z=>absurd rfl z
 obtain ⟨j',P'⟩:=zjy_ (o':=.ins C dx (ns.zip (vs.set n v))) (hn:=fun _=>none) o1 kh ndx jn h2m nul (fun q o z=>by cases z) (fun q=>.inl rfl)
 have eu:un (fun _=>none) h2=h2:=by funext q; rfl
 rw [eu] at j' P'
 obtain ⟨h',a1,a2⟩:=g (st yp.1 a) _ _ _ P' ⟨p,dx,vs.set n v,h2,rfl,ndx,j',by rw [List.length_set]; exact hl,pf a v (fun _=>none) h2 _ (Same.refl _) ⟨fun _=>rfl,T.mono hs1 (hT ht hv)⟩ (fun q=>.inl ⟨rfl,rfl⟩)⟩
 exact hk _ F0 H0 σ _ h' _ D a1 a2 fin
theorem zpN_ {P:Ps γ}{P':Ps δ}{ad:γ→α→δ}{x:γ}{w:V}{k:δ→Mo (Out ρ B S)}(hi:L[i]?=some (.ow (owAt w (owI C ns P)) x)) (hf:f∉ns) (hsm:ns.length<900) (pp:PsAdd P (owF T) P' ad) (hT:Imm T) (he:EvF K e E L r T) (hk:∀ x',EvS K u E (L.set i (.ow (owAt w (owI C (ns++[f]) P')) x')) (k x') LS LB Or) :
  EvS K (tSeq (mSFld C (mVar i) e f) u) E L (r.bind fun a=>k (ad x a)) LS LB Or:=by
 intro F0 H0 σ F h H D hL ok fin
 refine he σ (un F h) H _ (hL.froz ok.2.1) ok.thaw (zby_ (G:=F) ok _ (.inl rfl) fin fun a F' H' hra x1 v hv=>?_)
 obtain ⟨o,hs,ht⟩:=ok.back x1
 rw [hra] at fin
 obtain ⟨v0,k0,e1,⟨ew,p,dx,vs,m,rfl,ndx,jn,hl,ps⟩,kH,kh,_,g⟩:=zhZ_ (hL.mono hs) hi o
 have hp1:H' p=some (.ins C dx (ns.zip vs)):=kH _ _ (jn.l _ _ ziH_)
 refine zcl_ e1 ⟨dx,_,hp1,by rw [List.length_zip]; omega,?_⟩
 rw [zhK_ v hf hl]
 have nul:∀ q,(fun _:Addr=>(none:Option HO)) q≠none→less F' h q=none∧h q=none∧H0 q=none:=fun q z=>absurd rfl z
 obtain ⟨j',PC⟩:=zjy_ (o':=.ins C dx ((ns++[f]).zip (vs++[v]))) (hn:=fun _=>none) o kh ndx jn (Same.refl m) nul (fun q o z=>by cases z) (fun q=>.inl rfl)
 have eu:un (fun _=>none) m=m:=by funext q; rfl
 rw [eu] at j' PC
 obtain ⟨h',a1,a2⟩:=g (owAt w (owI C (ns++[f]) P')) (ad x a) (.ref p) _ _ _ PC ⟨ew,p,dx,vs++[v],m,rfl,ndx,j',by rw [List.length_append,List.length_append,hl]; rfl,pp ps a v (fun _=>none) m _ (Same.refl _) ⟨fun _=>rfl,hT ht hv⟩ (fun q=>.inl ⟨rfl,rfl⟩)⟩
 rw [zb2_ e1] at a1
 exact hk _ F0 H0 σ _ h' _ D a1 a2 fin
end
end L2
namespace L2
open PySem PySem.Spec PyProof.Rows
section
variable {K:PySem.W.Frag}{E:XK}{α β γ δ ρ ρ' S B:Type}{F0 H0 F h H:Hp}{L:List Sl}{e te ei:TE}{T:Ty α}{r:Mo α}{Or:Own ρ}{t u:TS}{LS:S→List Sl}{LB:B→List Sl}{σ:St}{C:Addr}{ns:List Str}{f m:Str}{i n:Nat}
noncomputable def FinM (K:PySem.W.Frag) (r:Mo ρ) (E:XK) (F0 H0:Hp) (kk:ρ→Hp→Hp→Hp→Prop):Prop:=match r with
 | .ok a=>∀ F h H,Okk F0 H0 F h H→kk a F h H
 | .ex c=>∀ F h H,Okk F0 H0 F h H→E (.ref (gA K c)) none H
 | .no=>False
noncomputable abbrev owRM (w:V) (O2:Own β) (Or:Own ρ):Own (ρ×β):=⟨fun r v F h=>∃ h1 h2,Jn h1 h2 h∧Or.O r.1 v F h1∧O2.O r.2 w F h2,⟨fun r v H=>Or.fr.R r.1 v H,fun g q=>Or.fr.mono g q⟩,
 fun g ⟨h1,h2,j,a,b⟩=>⟨h1,h2,j,Or.mono g a,O2.mono g b⟩,
 fun d ⟨h1,h2,j,a,b⟩=>Or.fr.mono (zew_ d j.l) (Or.frz (dj_l d j) a),
 fun ⟨h1,h2,j,a,b⟩ p xs z=>by
  rcases j p with ⟨_,y⟩ | ⟨_,y⟩
  ·rw [y] at z; exact O2.notup b p xs z
  ·rw [y] at z; exact Or.notup a p xs z⟩
noncomputable def CtM (K:PySem.W.Frag) (O:Own α) (O2:Own β) (Q:Cs γ) (g:α→γ→Mo (ρ×β)) (Or:Own ρ):Sp:=fun vs H R E=>∃ F h x c w ws,vs=w::ws∧Same F H∧Dj F h∧Same h H∧O.O x w F h∧Q.R c ws F ∧
 FinM K (g x c) E F (less H h) fun r F' h' H'=>∀ v,(owRM w O2 Or).O r v F' h'→R v H'
theorem zdD_ {k:Hp}(ok:Okk F0 H0 F h H) (s:Same k h):Okk F0 H0 F k H:=by
 refine ⟨ok.1,fun p=>?_,s.trans ok.2.2.1,fun p z=>ok.2.2.2.1 p fun y=>z (s.free y),fun p xs z=>ok.2.2.2.2 p xs (s _ _ z)⟩
 rcases ok.2.1 p with z | z
 ·exact .inl z
 ·exact .inr (s.free z)
theorem zaM_ {h:Hp}(p:Addr) (z:h p≠none):less H h p=none:=by
 unfold less
 cases y:h p with
 | none=>exact absurd y z
 | some w=>rfl
theorem zcu_:Same (less H h) H:=fun p o z=>by
 unfold less at z
 split at z
 ·exact z
 ·cases z
theorem zjq_ (hs:Same F H) (dj:Dj F h) (hh:Same h H) (nt:∀ p xs,h p≠some (.tup xs)):Okk F (less H h) F h H:=by
 refine ⟨⟨Same.refl _,hs,zcu_,fun p a b=>absurd a b⟩,dj,hh,fun p z=>zaM_ p z,nt⟩
noncomputable def fnMU (r:Mo (Out (Unit×β) Unit β)):Mo (Unit×β):=r.bind fun o=>match o with | .rt a=>.ok a | .nx x=>.ok ((),x) | _=>.no
noncomputable def fnMR (r:Mo (Out (ρ×β) Unit Unit)):Mo (ρ×β):=r.bind fun o=>match o with | .rt a=>.ok a | _=>.no
theorem zgM_ {O:Own α}{Q:Cs γ}{ss:γ→List Sl}{x:α}{c:γ}{w:V}{ws:List V}(m:Nat) (hC:CsS Q ss) (hO:O.O x w F h) (hc:Q.R c ws F):Hold (.ow (owAt w O) x::(ss c++List.replicate m .dead)) (some w::(ws.map some++List.replicate m none)) F h :=
 ⟨h,fun _=>none,fun _=>.inr ⟨rfl,rfl⟩,⟨w,rfl,rfl,hO⟩,(hC hc).hold m⟩
theorem zgv_ {t:XK→TS}{O:Own α}{O2:Own β}{Q:Cs γ}{ss:γ→List Sl}{g:α→γ→Mo (Out (Unit×β) Unit β)}{N:List Str}{LS:V→β→List Sl}(n m:Nat) (hn:CsN Q n) (hm:N.length-(n+1)=m) (hC:CsS Q ss) (hLS:∀ w x,(LS w x)[0]?=some (.ow (owAt w O2) x))
  (hb:∀ w x c E,EvS K (t E) E (.ow (owAt w O) x::(ss c++List.replicate m .dead)) (g x c) (LS w) (fun _:Unit=>[]) (owRM w O2 (owF tyNon))) :
  ∀ vs H R E,CtM K O O2 Q (fun x c=>fnMU (g x c)) (owF tyNon) vs H R E→t E { nx:=fun _ H'=>R .non H',rt:=R } (start N vs) H:=by
 rintro vs H R E ⟨F,h,x,c,w,ws,rfl,hs,dj,hh,hO,hc,q⟩
 have hstart:start N (w::ws)=some w::(ws.map some++List.replicate m none):=by
  unfold start
  rw [List.length_cons,hn hc,hm]; rfl
 rw [hstart]
 refine hb w x c E F (less H h) _ F h H _ (zgM_ m hC hO hc) (zjq_ hs dj hh (O.notup hO)) ?_
 cases e:g x c with
 | no=>simp only [fnMU,e] at q; exact q
 | ex cc=>simp only [fnMU,e] at q; exact q
 | ok o =>
  simp only [fnMU,e] at q
  cases o with
  | nx s =>
   intro σ F' h' H' hL ok
   obtain ⟨o,k,hr,e1,j,⟨v,e2,e3,ho⟩,_⟩:=hL.at 0 (hLS w s)
   subst e3
   exact q F' k H' (zdD_ ok j.l) .non ⟨fun _=>none,k,fun _=>.inl ⟨rfl,rfl⟩,⟨fun _=>rfl,rfl⟩,ho⟩
  | bk s=>exact q.elim
  | ct s=>exact q.elim
  | rt a=>exact fun v F' h' H' ok hv=>q F' h' H' ok v hv
theorem zij_ {t:XK→TS}{O:Own α}{O2:Own β}{Q:Cs γ}{ss:γ→List Sl}{g:α→γ→Mo (Out (ρ×β) Unit Unit)}{N:List Str}(n m:Nat) (hn:CsN Q n) (hm:N.length-(n+1)=m) (hC:CsS Q ss)
  (hb:∀ w x c E,EvS K (t E) E (.ow (owAt w O) x::(ss c++List.replicate m .dead)) (g x c) (fun _:Unit=>[]) (fun _:Unit=>[]) (owRM w O2 Or)) :
  ∀ vs H R E,CtM K O O2 Q (fun x c=>fnMR (g x c)) Or vs H R E→t E { nx:=fun _ H'=>R .non H',rt:=R } (start N vs) H:=by
 rintro vs H R E ⟨F,h,x,c,w,ws,rfl,hs,dj,hh,hO,hc,q⟩
 have hstart:start N (w::ws)=some w::(ws.map some++List.replicate m none):=by
  unfold start
  rw [List.length_cons,hn hc,hm]; rfl
 rw [hstart]
 refine hb w x c E F (less H h) _ F h H _ (zgM_ m hC hO hc) (zjq_ hs dj hh (O.notup hO)) ?_
 cases e:g x c with
 | no=>simp only [fnMR,e] at q; exact q
 | ex cc=>simp only [fnMR,e] at q; exact q
 | ok o =>
  simp only [fnMR,e] at q
  cases o with
  | nx s=>exact q.elim
  | bk s=>exact q.elim
  | ct s=>exact q.elim
  | rt a=>exact fun v F' h' H' ok hv=>q F' h' H' ok v hv
theorem zpw_ {O2:Own β}{x:β}{w:V}(h0:L[i]?=some (.ow (owAt w O2) x)) (hT:Imm T) (he:EvF K e E L r T):EvS K (tRet e) E L (r.bind fun a=>.ok (.rt (a,x))) LS LB (owRM w O2 (owF T)):=by
 intro F0 H0 σ F h H D hL ok fin
 refine he σ (un F h) H _ (hL.froz ok.2.1) ok.thaw (zby_ (G:=F) ok _ (.inl rfl) fin fun a F' H' hr x1 v hv=>?_)
 obtain ⟨o,hs,ht⟩:=ok.back x1
 rw [hr] at fin
 obtain ⟨_,k,_,_,j,⟨v',_,e3,ho⟩,_⟩:=(hL.mono hs).at i h0
 subst e3
 exact fin v _ k H' (zdD_ o j.l) ⟨fun _=>none,k,fun _=>.inl ⟨rfl,rfl⟩,⟨fun _=>rfl,hT ht hv⟩,ho⟩
theorem zlR_ {O:Own α}{P:Ps β}{r0:Mo (β×(β→α))}{Q:Cs γ}{ta:TA}{ra:Mo γ}{g:β→γ→Mo (ρ'×β)}{Or':Own ρ'}{k:α→Mo (Out ρ B S)}(hno:m∉ns) (hI:ImmO (owI C ns P)) (hp:EvPt K te E L i O (owI C ns P) r0) (hC:ImmC Q) (ha:EvA K ta E L ra Q)
  (hk:∀ x',EvS K u E (L.set i (.ow O x')) (k x') LS LB Or) :
  EvS K (tSeq (tDrop (tMeth C m (CtM K (owI C ns P) (owI C ns P) Q g Or') [] E0 te ta)) u) E L (r0.bind fun yp=>ra.bind fun c=>(g yp.1 c).noex.bind fun q=>k (yp.2 q.2)) LS LB Or:=by
 intro F0 H0 σ F h H D hL ok fin
 show te σ H fun x H1=>∃ a dx fs,x=.ref a∧H1 a=some (.ins C dx fs)∧fs.lookup m=none∧ta σ H1 fun vs H2=>CtM K (owI C ns P) (owI C ns P) Q g Or' (x::(vs++[])) H2 (fun _ H3=>u D σ H3) E0
 refine hp F0 H0 σ F h H _ hL ok (zby_ (G:=F) ok _ (.inl rfl) fin fun yp G1 H1 hr0 x1 u0 fc=>?_)
 obtain ⟨o1,hs1,_⟩:=ok.back x1
 rw [hr0] at fin
 obtain ⟨k0,⟨p,dx,vs0,m0,rfl,ndx,jn,hl,ps⟩,kh,_⟩:=fc _ H1 (Same.refl _) o1
 refine ⟨p,dx,_,rfl,o1.2.2.1 _ _ (kh _ _ (jn.l _ _ ziH_)),zbm_ hno,?_⟩
 refine ha σ (un (less G1 h) h) H1 _ ((hL.mono hs1).froz o1.2.1) o1.thaw (zby_ (G:=F) o1 _ (.inl rfl) fin fun c G2 H2 hra x2 vs hvs=>?_)
 obtain ⟨o2,hs2,ht2⟩:=o1.back x2
 rw [hra] at fin
 rw [List.append_nil]
 obtain ⟨k1,hO,kh1,gg⟩:=fc _ H2 hs2 o2
 have dFc:∀ q,less h k1 q≠none→k1 q=none:=fun q z=>by
  cases y:k1 q with
  | none=>rfl
  | some s=>exact absurd (zaM_ (H:=h) q (by rw [y]; exact Option.some_ne_none _)) z
 have sFc:Same (un (less G2 h) (less h k1)) H2:=fun q o z=>by
  unfold un at z
  cases y:less G2 h q with
  | some s=>rw [y] at z; rw [← z]; exact o2.1.2.1 _ _ y
  | none=>rw [y] at z; exact o2.2.2.1 _ _ (zcu_ _ _ z)
 have djc:Dj (un (less G2 h) (less h k1)) k1:=fun q=>by
  by_cases z:k1 q=none
  ·exact .inr z
  ·left
   unfold un
   have:less G2 h q=none:=zaM_ q fun y=>z (kh1.free y)
   rw [this]; exact zaM_ q z
 refine ⟨un (less G2 h) (less h k1),k1,yp.1,c,.ref p,vs,rfl,sFc,djc,kh1.trans o2.2.2.1,(owI C ns P).mono zbq_ hO,Q.mono zbq_ (hC ht2 hvs),?_⟩
 have fin:Fin K ((g yp.1 c).noex.bind fun q=>k (yp.2 q.2)) E LS LB Or F0 H0 D:=fin
 cases e:g yp.1 c with
 | no=>rw [e] at fin; exact fin
 | ex cc=>rw [e] at fin; exact fin.elim
 | ok q =>
  rw [e] at fin
  rintro F' h' H' okc v ⟨hr,hs',j,_,hO2⟩
  have lo:∀ q',less h k1 q'≠none→h q'≠none:=fun q' z y=>z (by unfold less; split; exact y; rfl)
  have tp:Tups F' (less F' (less h k1)):=fun b xs z=>by
   cases y:less h k1 b with
   | none=>rw [zS_ y]; exact z
   | some s =>
    exfalso
    have y2:un (less G2 h) (less h k1) b=some s:=by
     unfold un
     have:less G2 h b=none:=zaM_ b (lo b (by rw [y]; exact Option.some_ne_none _))
     rw [this]; exact y
    have:=okc.1.1 _ _ y2
    rw [z] at this
    injection this with this
    exact o2.2.2.2.2 b xs (by rw [this]; exact zcu_ _ _ y)
  have PC:PutC (less G2 h) H2 h H0 k1 hs' (less F' (less h k1)) H':=by
   refine ⟨fun b o z=>?_,fun b o z=>okc.1.2.1 _ _ (zcu_ _ _ z),okc.1.2.2.1,fun b a1 a2=>?_,j.r.trans okc.2.2.1,fun b=>?_,fun b a1 a2=>?_⟩
   ·have hb:h b=none:=by
     cases y:h b with
     | none=>rfl
     | some s=>rw [zaM_ b (by rw [y]; exact Option.some_ne_none _)] at z; cases z
    have:less h k1 b=none:=zcu_.free hb
    rw [zS_ this]
    exact okc.1.1 _ _ (zbq_ _ _ z)
   ·have y:less h k1 b=none:=by
     cases y:less h k1 b with
     | none=>rfl
     | some s=>exact absurd (zaM_ b (by rw [y]; exact Option.some_ne_none _)) a2
    rw [zS_ y] at a2
    have y2:un (less G2 h) (less h k1) b=none:=by unfold un; rw [a1]; exact y
    have y3:=okc.1.2.2.2 b y2 a2
    by_cases z:k1 b=none
    ·left; rw [zS_ z] at y3; exact y3
    ·exact .inr z
   ·by_cases z:hs' b=none
    ·exact .inr z
    ·left
     rcases okc.2.1 b with y | y
     ·exact zcu_.free y
     ·exact absurd (j.r.free y) z
   ·have y:=okc.2.2.2.1 b fun y=>a2 (j.r.free y)
    rw [zS_ a1] at y
    exact ⟨o2.2.2.1.free y,o2.1.2.2.1.free y⟩
  obtain ⟨h3,a1,a2⟩:=gg q.2 hs' _ H' PC (hI tp hO2)
  exact hk _ F0 H0 σ _ h3 H' D a1 a2 fin
theorem zkd_ {Q:Cs γ}{Q2:Cs δ}{ta:TA}{r0:Mo γ}{ra:Mo δ}{g:γ×δ→Mo α}(hno:m∉ns) (he:EvF K te E L r0 (tyI C ns Q)) (ha:EvA K ta E L ra Q2) :
  EvF K (tMeth C m (Ct K (csCons (tyI C ns Q) Q2) g (owF T)) [] E0 te ta) E L (r0.bind fun x=>ra.bind fun c=>(g (x,c)).noex) T:=by
 intro σ F H R hL hs q
 refine he σ F H _ hL hs (q.bind.imp fun x F1 H1 x1 k1 v hv=>?_)
 obtain ⟨p,dx,vs,rfl,hp,hl,hc⟩:=id hv
 refine ⟨p,dx,_,rfl,x1.2.1 _ _ hp,zbm_ hno,?_⟩
 refine ha σ F1 H1 _ (hL.mono x1.1) x1.2.1 (k1.bind.imp fun c F2 H2 x2 k2 us hus=>?_)
 rw [List.append_nil]
 refine ⟨F2,(x,c),x2.2.1,⟨_,us,rfl,(tyI C ns Q).mono x2.1 hv,hus⟩,k2.noex.imp fun a F3 H3 x3 k3 w hw _ _ _ hv=>k3 w hv.2⟩
theorem zf1_ {Q:Cs γ}{r0:Mo γ}{g:γ→Mo α}(hno:m∉ns) (he:EvF K te E L r0 (tyI C ns Q)) :
  EvF K (tMeth C m (Ct K (csLast (tyI C ns Q)) g (owF T)) [] E0 te tNil) E L (r0.bind fun x=>(g x).noex) T:=by
 intro σ F H R hL hs q
 refine he σ F H _ hL hs (q.bind.imp fun x F1 H1 x1 k1 v hv=>?_)
 obtain ⟨p,dx,vs,rfl,hp,hl,hc⟩:=id hv
 refine ⟨p,dx,_,rfl,x1.2.1 _ _ hp,zbm_ hno,?_⟩
 exact ⟨F1,x,x1.2.1,⟨_,rfl,hv⟩,k1.noex.imp fun a F3 H3 x3 k3 w hw _ _ _ hv=>k3 w hv.2⟩
theorem zmi_ {P:Ps γ}{Q:Cs δ}{ta:TA}{ra:Mo δ}{g:Unit→δ→Mo (Unit×γ)}(ha:EvA K ta E L ra Q) :
  EvO K (tMake C (CtM K (owI C [] psNil) (owI C ns P) Q g (owF tyNon)) [] E0 ta) E L (ra.bind fun c=>(g () c).noex.bind fun q=>.ok q.2) (owI C ns P):=by
 intro σ F H R hL hs q
 refine ha σ F H _ hL hs (q.bind.imp fun c F1 H1 x1 k1 vs hvs x dx hx hdx ndx=>?_)
 rw [List.append_nil]
 have new:∀ b,two x dx (.ins C dx []) b≠none→H1 b=none:=fun b z=>by
  unfold two at z
  split at z
  ·rename_i e; rw [e]; exact hx
  ·split at z
   ·rename_i e; rw [e]; exact hdx
   ·exact absurd rfl z
 have at1:∀ b,two x dx (.ins C dx []) b=none→upd (upd H1 dx (.own x)) x (.ins C dx []) b=H1 b:=fun b z=>by
  obtain ⟨a1,a2⟩:=znJ_ z
  rw [zaT_ a1,zaT_ a2]
 have at2:Same (two x dx (.ins C dx [])) (upd (upd H1 dx (.own x)) x (.ins C dx [])):=fun b o z=>by
  unfold two at z
  split at z
  ·rename_i e; rw [e,zaY_]; exact z
  ·rename_i e0
   split at z
   ·rename_i e; rw [zaT_ e0,e,zaY_]; exact z
   ·cases z
 have dj:Dj F1 (two x dx (.ins C dx [])):=fun b=>by
  by_cases z:two x dx (.ins C dx []) b=none
  ·exact .inr z
  ·exact .inl (x1.2.1.free (new b z))
 have sF:Same F1 (upd (upd H1 dx (.own x)) x (.ins C dx [])):=fun b o z=>by
  have hb:=x1.2.1 _ _ z
  rw [at1 b ?_]
  ·exact hb
  ·cases y:two x dx (.ins C dx []) b with
   | none=>rfl
   | some s=>rw [new b (by rw [y]; exact Option.some_ne_none _)] at hb; cases hb
 have eH:∀ b,less (upd (upd H1 dx (.own x)) x (.ins C dx [])) (two x dx (.ins C dx [])) b=H1 b:=fun b=>by
  by_cases z:two x dx (.ins C dx []) b=none
  ·rw [zS_ z,at1 b z]
  ·rw [zaM_ b z,new b z]
 refine ⟨F1,two x dx (.ins C dx []),(),c,.ref x,vs,rfl,sF,dj,at2,⟨x,dx,[],fun _=>none,rfl,ndx,fun _=>.inr ⟨rfl,rfl⟩,rfl,rfl,fun _=>rfl⟩,hvs,?_⟩
 cases e:g () c with
 | no=>rw [e] at k1; exact k1
 | ex cc=>rw [e] at k1; exact k1.elim
 | ok q0 =>
  rw [e] at k1
  rintro F' h' H' okc v ⟨hr,hs',j,⟨_,hv⟩,hO2⟩
  refine ⟨hv,?_⟩
  have xx:Ext F1 H1 F' H':=⟨okc.1.1,okc.1.2.1,fun b o z=>okc.1.2.2.1 b o (by rw [eH]; exact z),fun b a1 a2=>by rw [← eH b]; exact okc.1.2.2.2 b a1 a2⟩
  refine k1 F' H' xx (.ref x) hs' (fun b z=>?_) (fun b=>?_) (j.r.trans okc.2.2.1) hO2
  ·have:=okc.2.2.2.1 b fun y=>z (j.r.free y)
   rw [eH] at this
   exact x1.2.2.1.free this
  ·rcases okc.2.1 b with y | y
   ·exact .inl y
   ·exact .inr (j.r.free y)
end
end L2
namespace L2
open PySem PySem.Spec PyProof.Rows
section
variable {K:PySem.W.Frag}{E:XK}{α β γ δ ρ ρ' S B:Type}{F0 H0 F h H:Hp}{L:List Sl}{e te ei:TE}{T:Ty α}{r:Mo α}{Or:Own ρ}{t u:TS}{LS:S→List Sl}{LB:B→List Sl}{σ:St}{C:Addr}{ns:List Str}{f m:Str}{i n:Nat}
noncomputable def ImmP (P:Ps γ):Prop:=∀ {c vs F F' h},Tups F F'→P.P c vs F h→P.P c vs F' h
theorem zar_:ImmP psNil:=fun _ q=>q
theorem zm_ {O:Own α}{P:Ps γ}(a:ImmO O) (b:ImmP P):ImmP (psO O P):=fun g ⟨v,us,h1,h2,e,j,x,y⟩=>⟨v,us,h1,h2,e,j,a g x,b g y⟩
theorem zce_ {P:Ps γ}(b:ImmP P):ImmO (owI C ns P):=fun g ⟨p,dx,vs,k,e,nd,j,l,q⟩=>⟨p,dx,vs,k,e,nd,j,l,b g q⟩
theorem zgu_ {O:Own β}{P:Ps γ}{st:γ→α→γ}{r0:Mo (γ×(γ→β))}{k:β→Mo (Out ρ B S)}(nd:ns.Nodup) (hf:ns[n]?=some f) (hsm:ns.length<1000) (pp:PsPut P n (owF T) st) (hT:Imm T) (he:EvF K e E L r T) (hp:EvPt K te E L i O (owI C ns P) r0) (hk:∀ x',EvS K u E (L.set i (.ow O x')) (k x') LS LB Or) :
  EvS K (tSeq (mSFld C te e f) u) E L (r.bind fun a=>r0.bind fun yp=>(Mo.ok (yp.2 (st yp.1 a))).bind k) LS LB Or:=zpP_ nd hf hsm pp hT he hp hk
theorem zgY_ {P:Ps γ}{P':Ps δ}{ad:γ→α→δ}{x:γ}{w:V}{k:δ→Mo (Out ρ B S)}(hi:L[i]?=some (.ow (owAt w (owI C ns P)) x)) (hf:f∉ns) (hsm:ns.length<900) (pp:PsAdd P (owF T) P' ad) (hT:Imm T) (he:EvF K e E L r T) (hk:∀ x',EvS K u E (L.set i (.ow (owAt w (owI C (ns++[f]) P')) x')) (k x') LS LB Or) :
  EvS K (tSeq (mSFld C (mVar i) e f) u) E L (r.bind fun a=>(Mo.ok (ad x a)).bind k) LS LB Or:=zpN_ hi hf hsm pp hT he hk
theorem znm_ {O:Own α}{P:Ps β}{r0:Mo (β×(β→α))}{Q:Cs γ}{ta:TA}{ra:Mo γ}{g:β→γ→Mo (ρ'×β)}{Or':Own ρ'}{k:α→Mo (Out ρ B S)}(hno:m∉ns) (hI:ImmO (owI C ns P)) (hp:EvPt K te E L i O (owI C ns P) r0) (hC:ImmC Q) (ha:EvA K ta E L ra Q)
  (hk:∀ x',EvS K u E (L.set i (.ow O x')) (k x') LS LB Or) :
  EvS K (tSeq (tDrop (tMeth C m (CtM K (owI C ns P) (owI C ns P) Q g Or') [] E0 te ta)) u) E L (r0.bind fun yp=>ra.bind fun c=>(g yp.1 c).noex.bind fun q=>(Mo.ok (yp.2 q.2)).bind k) LS LB Or:=zlR_ hno hI hp hC ha hk
noncomputable def EvAO (K:PySem.W.Frag) (t:TA) (E:XK) (L:List Sl) (r:Mo (List α)) (O:Own α):Prop :=
 ∀ σ F H (Q:List V→Hp→Prop),HoldF L σ F→Same F H→After K r E F H (fun xs F' H'=>∀ vs h,(∀ p,h p≠none→H p=none)→Dj F' h→Same h H'→OwAll O F' xs vs h→Q vs H')→t σ H Q
theorem zod_ {O:Own α}:EvAO K tNil E L (.ok ([]:List α)) O:=fun σ F H Q hL hs q=>q.ok hs [] (fun _=>none) (fun p z=>absurd rfl z) (fun p=>.inr rfl) (fun p o z=>by cases z) fun _=>rfl
theorem zke_ {O:Own α}{t:TA}{r':Mo (List α)}(he:EvO K e E L r O) (ht:EvAO K t E L r' O):EvAO K (tCons e t) E L (r.bind fun a=>r'.bind fun as=>.ok (a::as)) O:=by
 intro σ F H Q hL hs q
 refine he σ F H _ hL hs (q.bind.imp fun a F1 H1 x1 k1 v h1 fr1 d1 s1 o1=>?_)
 refine ht σ F1 H1 _ (hL.mono x1.1) x1.2.1 (k1.bind.imp fun as F2 H2 x2 k2 vs h2 fr2 d2 s2 o2=>?_)
 have dj:Dj h1 h2:=fun p=>by
  by_cases z:h2 p=none
  ·exact .inr z
  ·exact .inl (s1.free (fr2 p z))
 have k3:=k2.ok x2.2.1
 refine k3 (v::vs) (un h1 h2) (fun p z=>?_) (fun p=>?_) (fun p o z=>?_) ⟨h1,h2,zdN_ dj,O.mono x2.1 o1,o2⟩
 ·unfold un at z
  cases y:h1 p with
  | some w=>exact fr1 p (by rw [y]; exact Option.some_ne_none _)
  | none=>rw [y] at z; exact x1.2.2.1.free (fr2 p z)
 ·unfold un
  cases y:h1 p with
  | some w =>
   left
   have F1p:F1 p=none:=by
    rcases d1 p with z | z
    ·exact z
    ·rw [z] at y; cases y
   by_cases w:F2 p=none
   ·exact w
   ·have:=x2.2.2.2 p F1p w
    rw [s1 _ _ y] at this; cases this
  | none=>exact d2 p
 ·unfold un at z
  cases y:h1 p with
  | some w=>rw [y] at z; rw [← z]; exact x2.2.2.1 _ _ (s1 _ _ y)
  | none=>rw [y] at z; exact s2 _ _ z
theorem zo1_ {O:Own α}{t:TA}{r:Mo (List α)}(ht:EvAO K t E L r O):EvO K (tLst t) E L (r.bind fun xs=>.lim xs.length (.ok xs)) (owLO O):=by
 intro σ F H Q hL hs q
 refine ht σ F H _ hL hs (q.bind.imp fun xs F1 H1 x1 k1 vs h1 fr d s o=>?_)
 obtain ⟨hz,k1⟩:=k1.lim
 refine ⟨by rw [← o.len]; exact hz,fun p hp=>?_⟩
 have hp1:h1 p=none:=s.free hp
 have dj:Dj (one p (.lst vs)) h1:=fun q=>by
  by_cases z:q=p
  ·rw [z]; exact .inr hp1
  ·left; unfold one; rw [if_neg z]
 have xx:Ext F1 H1 F1 (upd H1 p (.lst vs)):=⟨Same.refl _,fun b o z=>by rw [zaT_ (fun e=>by rw [e] at z; have:=x1.2.1 _ _ z; rw [hp] at this; cases this)]; exact x1.2.1 _ _ z,fun b o z=>by rw [zaT_ (fun e=>by rw [e,hp] at z; cases z)]; exact z,fun b a c=>absurd a c⟩
 refine k1 F1 _ xx (.ref p) (un (one p (.lst vs)) h1) (fun b z=>?_) (fun b=>?_) (fun b o' z=>?_) ⟨p,vs,h1,rfl,zdN_ dj,o⟩
 ·unfold un at z
  by_cases e:b=p
  ·rw [e]; exact x1.2.2.1.free hp
  ·unfold one at z; rw [if_neg e] at z; exact fr b z
 ·unfold un
  by_cases e:b=p
  ·left; rw [e]; exact x1.2.1.free hp
  ·unfold one; rw [if_neg e]; exact d b
 ·unfold un at z
  by_cases e:b=p
  ·rw [e,zbk_] at z; rw [e,zaY_]; exact z
  ·unfold one at z; rw [if_neg e] at z; rw [zaT_ e]; exact s _ _ z
theorem zlN_ {hn:Hp}(ok:Okk F0 H0 F h H) (fr:∀ p,hn p≠none→H0 p=none∧h p=none) (s:Same hn H):Okk F0 H0 (un F hn) h H:=by
 refine ⟨⟨ok.1.1.trans zbq_,fun p o z=>?_,ok.1.2.2.1,fun p a b=>?_⟩,fun p=>?_,ok.2.2.1,ok.2.2.2.1,ok.2.2.2.2⟩
 ·unfold un at z
  cases y:F p with
  | some w=>rw [y] at z; rw [← z]; exact ok.1.2.1 _ _ y
  | none=>rw [y] at z; exact s _ _ z
 ·unfold un at b
  cases y:F p with
  | some w=>exact ok.1.2.2.2 p a (by rw [y]; exact Option.some_ne_none _)
  | none=>rw [y] at b; exact (fr p b).1
 ·unfold un
  cases y:F p with
  | some w =>
   right
   rcases ok.2.1 p with z | z
   ·rw [z] at y; cases y
   ·exact z
  | none =>
   by_cases z:hn p=none
   ·exact .inl z
   ·exact .inr (fr p z).2
end
end L2
namespace L2
open PySem PySem.Spec PyProof.Rows
section
variable {K:PySem.W.Frag}{E:XK}{γ:Type}{L:List Sl}{C:Addr}{ns:List Str}
theorem zl8_ (i:Nat) {P:Ps γ}{x:γ}(h:L[i]?=some (.ow (owI C ns P) x)):EvF K (mVar i) E L (.ok x) (tyI C ns P.fr):=zfr_ i h
theorem zbK_ (i:Nat) {P:Ps γ}{x:γ}{w:V}(h:L[i]?=some (.ow (owAt w (owI C ns P)) x)):EvF K (mVar i) E L (.ok x) (tyI C ns P.fr):=zfr_ i h
end
end L2
namespace L2
open PySem PySem.Spec PyProof.Rows
noncomputable def joinL (sep:List Nat):List (List Nat)→List Nat
 | []=>[]
 | [p]=>p
 | p::q::r=>p++sep++joinL sep (q::r)
theorem zfW_ (y:Str):∀ ps:List Str,(Str.join y ps).cps.toList=joinL y.cps.toList (ps.map fun p=>p.cps.toList)
 | []=>rfl
 | [p]=>rfl
 | p::q::r=>by
  show (p++y++Str.join y (q::r)).cps.toList=_
  rw [zko_,zko_,zfW_ y (q::r)]
  rfl
theorem ziJ_ (sep:List Nat) (ps:List (List Nat)):joinS sep (strsL ps)=joinL sep ps:=by
 have:=zfW_ ⟨sep.toArray⟩ (strsL ps)
 unfold joinS
 refine Eq.trans ?_ (this.trans ?_)
 ·rw [eq_of_beq (PyProof.Rows.join_closes (sep:=⟨sep.toArray⟩) (ys:=strsL ps) rfl)]
 ·unfold strsL
  rw [List.map_map]
  congr 1
  exact (List.map_congr_left fun p _=>rfl).trans (List.map_id _)
end L2
namespace L2
open PySem PySem.Spec PyProof.Rows
section
variable {X:Cx}
end
section
variable {K:PySem.W.Frag}{E:XK}{α β:Type}{L:List Sl}{e:TE}{T:Ty α}
theorem zkI_ {r:Mo (Option α)}(h:EvF K e E L r (tyOpt T)):EvF K e E L (r.bind fun o=>Mo.opt o) T:=by
 intro σ F H Q hL hs q
 refine h σ F H _ hL hs (q.bind.imp fun o F1 H1 x k v hv=>?_)
 cases o with
 | none=>exact k.elim
 | some a=>exact k.ok x.2.1 v hv.1
noncomputable def EvJ (K:PySem.W.Frag) (k:Nat) (tj:TJ) (E:XK) (L:List Sl) (r:Mo (List Nat)):Prop :=
 ∀ (n:Nat) (acc:List Nat) σ F H (R:Str→Hp→Prop),acc.length≤1000*n→n+k≤90→HoldF L σ F→Same F H→After K r E F H (fun l F' H'=>l.length≤1000*k→R ⟨(acc++l).toArray⟩ H')→tj ⟨acc.toArray⟩ σ H R
theorem zp4_:EvJ K 0 tJ0 E L (.ok []):=fun n acc σ F H R ha hn hL hs q=>by
 have:=q.ok hs (Nat.zero_le _)
 rwa [List.append_nil] at this
theorem zkD_ {ta:TE}{tr:TJ}{k:Nat}{r r':Mo (List Nat)}(h:EvF K ta E L r tyStr) (hr:EvJ K k tr E L r'):EvJ K (k+1) (tJ1 ta tr) E L (r.bind fun a=>.grd (a.length≤1000) (r'.bind fun l=>.ok (a++l))):=by
 intro n acc σ F H R ha hn hL hs q
 refine h σ F H _ hL hs (q.bind.imp fun a F1 H1 x1 k1 v hv=>?_)
 cases hv
 obtain ⟨hz,k1⟩:=k1.grd
 have e:((⟨acc.toArray⟩:Str)++(⟨a.toArray⟩:Str))=⟨(acc++a).toArray⟩:=by
  show (⟨acc.toArray++a.toArray⟩:Str)=_
  simp
 show ((⟨acc.toArray⟩:Str)++(⟨a.toArray⟩:Str)).length≤sizeLine∧tr ((⟨acc.toArray⟩:Str)++(⟨a.toArray⟩:Str)) σ H1 R
 rw [e]
 refine ⟨by show (acc++a).toArray.size≤sizeLine; rw [List.size_toArray,List.length_append,sizeLine_eq]; omega,hr (n+1) (acc++a) σ F1 H1 R (by rw [List.length_append]; omega) (by omega) (hL.mono x1.1) x1.2.1 (k1.bind.imp fun l F2 H2 x2 k2 hl=>?_)⟩
 have:=k2.ok x2.2.1 (by rw [List.length_append]; omega)
 rwa [← List.append_assoc] at this
theorem zk5_ {tj:TJ}{k:Nat}{r:Mo (List Nat)}(h:EvJ K k tj E L r) (hk:k≤80:=by decide):EvF K (tJoin tj) E L r tyStr:=by
 intro σ F H Q hL hs q
 refine h 0 [] σ F H _ (by simp) (by omega) hL hs (q.imp fun l F' H' x k1 hl=>?_)
 rw [List.nil_append]
 exact ⟨by show l.toArray.size≤sizeLine; rw [List.size_toArray,sizeLine_eq]; omega,k1 _ rfl⟩
theorem zlS_ {r:Mo (List Nat)}(h:EvF K e E L r tyStr):EvF K (tUn mFmt e) E L (r.bind fun l=>.lim l.length (.ok l)) tyStr:=by
 intro σ F H Q hL hs q
 refine h σ F H _ hL hs (q.bind.imp fun l F1 H1 x1 k1 v hv=>?_)
 cases hv
 obtain ⟨hz,k1⟩:=k1.lim
 exact ⟨by show l.toArray.size≤sizeLine; rw [List.size_toArray]; exact hz,k1.ok x1.2.1 _ rfl⟩
end
end L2
namespace L2
open PySem PySem.Spec PyProof.Rows
end L2
namespace L2
open PySem PySem.Spec PyProof.Rows
section
variable {prog:Program}{w:World}{A:Around}{E:Value→Shared→Prop}{s:Shared}
end
section
variable {X:Cx}
end
section
variable {K:PySem.W.Frag}{E:XK}{α β γ ρ S B:Type}{F H:Hp}{L:List Sl}{e:TE}{T:Ty α}
end
end L2
namespace L2
open PySem PySem.Spec PyProof.Rows
section
variable {α β γ:Type}
noncomputable abbrev owPn (u:V) (O':Own β) (put:β→α) (O:Own α):Own β:=⟨fun z v F k=>∃ k1 k2,Jn k1 k2 k∧O'.O z u F k1∧∀ z' k1' k' F3,Same F F3→O'.O z' u F3 k1'→Jn k1' k2 k'→O.O (put z') v F3 k',
 ⟨fun z v H=>O.fr.R (put z) v H∧O'.fr.R z u H,fun g q=>⟨O.fr.mono g q.1,O'.fr.mono g q.2⟩⟩,
 fun g ⟨k1,k2,j,a,b⟩=>⟨k1,k2,j,O'.mono g a,fun z' k1' k' F3 s=>b z' k1' k' F3 (g.trans s)⟩,
 fun d ⟨k1,k2,j,a,b⟩=>⟨O.frz d (b _ k1 _ _ (Same.refl _) a j),O'.fr.mono (zew_ d j.l) (O'.frz (dj_l d j) a)⟩,
 fun ⟨k1,k2,j,a,b⟩=>O.notup (b _ k1 _ _ (Same.refl _) a j)⟩
theorem zhY_ {u v:V}{O':Own β}{put:β→α}{O:Own α}{z:β}{F k:Hp}(h:(owPn u O' put O).O z v F k):O.O (put z) v F k:=by
 obtain ⟨k1,k2,j,a,b⟩:=h
 exact b _ k1 _ _ (Same.refl _) a j
theorem zj2_ {k1 k2 kb m k:Hp}(jm:Jn k2 kb m) (j:Jn k1 m k):Dj k1 k2∧Jn (un k1 k2) kb k:=by
 refine ⟨fun p=>?_,fun p=>?_⟩
 ·rcases j.dj p with z | z
  ·exact .inl z
  ·exact .inr (jm.l.free z)
 ·unfold un
  rcases j p with ⟨a,b⟩ | ⟨a,b⟩
  ·rw [a,b]
   rcases jm p with ⟨c,e⟩ | ⟨c,e⟩
   ·exact .inl ⟨c,e⟩
   ·exact .inr ⟨c,e⟩
  ·right
   refine ⟨jm.r.free a,?_⟩
   rw [b]
   cases z:k1 p with
   | some w=>rfl
   | none=>exact (jm.l.free a).symm
theorem zpC_ {k:Hp}:Jn k (fun _=>none) k:=fun p=>.inr ⟨rfl,rfl⟩
theorem zll_ {k k':Hp}(j:Jn k (fun _=>none) k'):k'=k:=by
 funext p
 rcases j p with ⟨a,b⟩ | ⟨a,b⟩
 ·rw [a,b]
 ·exact b
end
section
variable {K:PySem.W.Frag}{E:XK}{α β γ δ ρ ρ' S B:Type}{F0 H0 F h H:Hp}{L:List Sl}{e te ei:TE}{T:Ty α}{r:Mo α}{Or:Own ρ}{t u:TS}{LS:S→List Sl}{LB:B→List Sl}{σ:St}{C:Addr}{ns:List Str}{f m:Str}{i n w:Nat}
theorem zdd_ {O1:Own α}{O2:Own β}{x:α}{x2:β}(hL:Hold L σ F h) (hi:L[i]?=some (.ow O1 x)) (g:∀ v k,σ[i]?=some (some v)→Same k h→O1.O x v F k→O2.O x2 v F k):Hold (L.set i (.ow O2 x2)) σ F h:=by
 obtain ⟨o,k,hr,e1,j,⟨v,e2,ho⟩,f⟩:=hL.at i hi
 subst e2
 have:=f (.ow O2 x2) (some v) k h j ⟨v,rfl,g v k e1 j.l ho⟩
 rwa [zb2_ e1] at this
noncomputable def EvPw (K:PySem.W.Frag) (te:TE) (E:XK) (L:List Sl) (i:Nat) (O:Own α) (O':Own β) (r:Mo (β×(β→α))):Prop :=
 ∀ F0 H0 σ F h H (Q:VK),Hold L σ F h→Okk F0 H0 F h H→After K r E (un F h) H (fun yp G1 H1=>∀ u,i<L.length→Hold (L.set i (.ow (owPn u O' yp.2 O) yp.1)) σ (less G1 h) h→Q u H1)→te σ H Q
theorem zdE_ {O:Own α}{x:α}(hi:L[i]?=some (.ow O x)):EvPw K (mVar i) E L i O O (.ok (x,fun z=>z)):=by
 intro F0 H0 σ F h H Q hL ok q
 obtain ⟨o,hs,_⟩:=ok.back (Ext.refl ok.thaw)
 obtain ⟨_,k,hr,e1,j,⟨v,e2,ho⟩,f⟩:=(hL.mono hs).at i hi
 subst e2
 refine zcl_ e1 (q.ok ok.thaw v (List.getElem?_eq_some_iff.mp hi).1 (zdd_ (hL.mono hs) hi fun v' k ev kh ho=>?_))
 rw [e1] at ev; cases ev
 exact ⟨k,fun _=>none,zpC_,ho,fun z' k1' k' F3 s o' j'=>by rw [zll_ j']; exact o'⟩
theorem zl9_ {O:Own α}{O1:Own β}{O2:Own γ}{uu v w:V}{put:β→α}{y:β}{z:γ}{st:γ→β}{k:Hp}(pt:∀ ka,Same ka k→O1.O y uu F ka→∃ k1 k2,Jn k1 k2 ka∧O2.O z w F k1∧∀ z' k1' k' F3,Same F F3→O2.O z' w F3 k1'→Jn k1' k2 k'→O1.O (st z') uu F3 k')
  (h:(owPn uu O1 put O).O y v F k):(owPn w O2 (fun z'=>put (st z')) O).O z v F k:=by
 obtain ⟨ka,kb,jk,ho,wand⟩:=h
 obtain ⟨k1,k2,j1,o1,g⟩:=pt ka jk.l ho
 obtain ⟨mm,jm,jh⟩:=zdM_ j1 jk
 refine ⟨k1,mm,jh,o1,fun z' k1' k' F3 s oz j'=>?_⟩
 obtain ⟨d,jg⟩:=zj2_ jm j'
 exact wand (st z') _ k' F3 s (g z' k1' _ F3 s oz (zdN_ d)) jg
theorem zlU_ {O:Own α}{P:Ps γ}{O':Own β}{pr:γ→β}{st:γ→β→γ}{r:Mo (γ×(γ→α))}(nd:ns.Nodup) (hf:ns[n]?=some f) (pa:PsAt P n O' pr st) (hp:EvPw K te E L i O (owI C ns P) r) :
  EvPw K (mFld C te f) E L i O O' (r.bind fun yp=>.ok (pr yp.1,fun z'=>yp.2 (st yp.1 z'))):=by
 intro F0 H0 σ F h H Q hL ok q
 refine hp F0 H0 σ F h H _ hL ok (q.bind.imp fun yp G1 H1 x1 k1 uu il hh=>?_)
 obtain ⟨o1,_,_⟩:=ok.back x1
 have hi:(L.set i (.ow (owPn uu (owI C ns P) yp.2 O) yp.1))[i]?=some (.ow (owPn uu (owI C ns P) yp.2 O) yp.1):=by rw [List.getElem?_set_self (by exact il)]
 obtain ⟨_,k,hr,e1,j,⟨v,e2,ka,kb,jk,⟨p,dx,vs,mm,rfl,ndx,jn,hl,ps⟩,wand⟩,_⟩:=hh.at i hi
 have hp1:h p=some (.ins C dx (ns.zip vs)):=j.l _ _ (jk.l _ _ (jn.l _ _ ziH_))
 obtain ⟨w,_,_,ew,_⟩:=pa ps
 refine ⟨dx,_,w,o1.2.2.1 _ _ hp1,zee_ nd hf ew,?_⟩
 have:=zdd_ (O2:=owPn w O' (fun z'=>yp.2 (st yp.1 z')) O) (x2:=pr yp.1) hh hi fun v k ev kh ho=>zl9_ (st:=st yp.1) (fun ka ks ho=>zoW_ pa hp1 hl ew _ ka (ks.trans kh) ho) ho
 rw [List.set_set] at this
 exact k1.ok x1.2.1 w il this
theorem zmy_ {O:Own α}{O':Own β}{r:Mo (List β×(List β→α))}{rj:Mo Int}(hp:EvPw K te E L i O (owLO O') r) (hj:EvF K ei E L rj tyInt) :
  EvPw K (tOp (mIx K) te ei) E L i O O' (r.bind fun yp=>rj.bind fun j=>(Mo.opt (ixN yp.1.length j)).bind fun n=>(Mo.opt (yp.1[n]?)).bind fun z=>.ok (z,fun z'=>yp.2 (yp.1.set n z'))):=by
 intro F0 H0 σ F h H Q hL ok q
 refine hp F0 H0 σ F h H _ hL ok (q.bind.imp fun yp G1 H1 x1 k1 uu il hh=>?_)
 refine hj σ G1 H1 _ ((hL.froz ok.2.1).mono x1.1) x1.2.1 (k1.bind.imp fun j G2 H2 x2 k2 v2 hv2=>?_)
 cases hv2
 obtain ⟨n,en,k3⟩:=k2.bind.opt
 obtain ⟨z,ez,k4⟩:=(k3.ok x2.2.1).bind.opt
 have k5:=(k4.ok x2.2.1).ok x2.2.1
 obtain ⟨o2,_,_⟩:=ok.back (x1.trans x2)
 have hh:=hh.mono (zeT_ (h:=h) x2.1)
 have hi:(L.set i (.ow (owPn uu (owLO O') yp.2 O) yp.1))[i]?=some (.ow (owPn uu (owLO O') yp.2 O) yp.1):=by rw [List.getElem?_set_self (by exact il)]
 obtain ⟨_,k,hr,e1,jj,⟨v,e2,ka,kb,jk,⟨p,vs,mm,rfl,jn,all⟩,wand⟩,_⟩:=hh.at i hi
 have hp1:h p=some (.lst vs):=jj.l _ _ (jk.l _ _ (jn.l _ _ zbk_))
 refine ⟨vs,.inl (.of (o2.2.2.1 _ _ hp1)),?_⟩
 have hl:=all.len
 have hn:=zkE_ en
 have hw:vs[n]?=some vs[n]:=List.getElem?_eq_getElem (by omega)
 have en':ixN vs.length j=some n:=by rw [← hl]; exact en
 have ea:atI vs j=some vs[n]:=by unfold atI; rw [en']; exact hw
 rw [ea]
 have:=zdd_ (O2:=owPn vs[n] O' (fun z'=>yp.2 (yp.1.set n z')) O) (x2:=z) hh hi fun v k ev kh ho=>zl9_ (st:=fun z'=>yp.1.set n z') (fun ka ks ho=>zjV_ hp1 hw ez _ ka (ks.trans kh) ho) ho
 rw [List.set_set] at this
 exact k5 _ il this
noncomputable abbrev tyIs (u:V):Ty Unit:=⟨fun _ v _=>v=u,fun _ q=>q⟩
theorem zoG_ {O:Own α}{O':Own β}{r0:Mo (β×(β→α))}{k:β×(β→α)→Mo (Out ρ B S)}{s0:Sl}(hw:L[w]?=some s0) (hne:i≠w) (hp:EvPw K te E L i O O' r0)
  (hk:∀ uu yp,EvS K u E ((L.set i (.ow (owPn uu O' yp.2 O) yp.1)).set w (.fz (tyIs uu) ())) (k yp) LS LB Or):EvS K (tSeq (tAsg te (gName w)) u) E L (r0.bind k) LS LB Or:=by
 intro F0 H0 σ F h H D hL ok fin
 refine hp F0 H0 σ F h H _ hL ok (zby_ (G:=F) ok _ (.inl rfl) fin fun yp G1 H1 hr0 x1 uu il hh=>?_)
 obtain ⟨o1,_,_⟩:=ok.back x1
 rw [hr0] at fin
 refine hk uu yp F0 H0 _ _ h H1 D (zd6_ (T:=tyIs uu) (a:=()) (s:=s0) ?_ hh rfl) o1 fin
 rw [List.getElem?_set_ne hne]; exact hw
theorem zh8_ {O:Own α}{O':Own β}{put:β→α}{uu:V}{z:β}(hi:L[i]?=some (.ow (owPn uu O' put O) z)) (hw:L[w]?=some (.fz (tyIs uu) ())):EvPt K (mVar w) E L i (owPn uu O' put O) O' (.ok (z,fun z'=>z')):=by
 intro F0 H0 σ F h H Q hL ok q
 obtain ⟨o,hs,_⟩:=ok.back (Ext.refl ok.thaw)
 obtain ⟨v,ev,fc⟩:=zkG_ (F0:=F0) (H0:=H0) (hL.mono hs) hi
 obtain ⟨_,_,_,e1,_,⟨v',e2,e3⟩,_⟩:=hL.at w hw
 subst e2
 obtain rfl:v'=uu:=e3
 refine zcl_ e1 (q.ok ok.thaw v' (Foc.part (put:=fun z'=>z') fc fun F2 k s kh ⟨k1,k2,j,a,b⟩=>?_))
 exact ⟨k1,k2,j,a,fun z' k1' k' F3 s o' j'=>⟨k1',k2,j',o',fun z' k1' k' F3 s'=>b z' k1' k' F3 (s.trans s')⟩⟩
theorem znj_ {O:Own α}{O':Own β}{put:β→α}{uu:V}{z:β}(hi:L[i]?=some (.ow (owPn uu O' put O) z)) (hw:L[w]?=some (.fz (tyIs uu) ())):EvF K (mVar w) E L (.ok z) O'.fr:=by
 intro σ F H Q hL hs q
 obtain ⟨v,e1,a,b⟩:=hL i _ hi
 obtain ⟨v',e2,e3⟩:=hL w _ hw
 obtain rfl:v'=uu:=e3
 unfold mVar
 cases z:σ[w]? with
 | none=>rw [z] at e2; cases e2
 | some o=>rw [z] at e2; cases e2; exact q.ok hs v' b
theorem zom_ {O:Own α}{O':Own β}{put:β→α}{uu:V}{z:β}{r:Mo (Out ρ B S)}(hi:L[i]?=some (.ow (owPn uu O' put O) z)) (hk:EvS K u E (L.set i (.ow O (put z))) r LS LB Or):EvS K u E L r LS LB Or:=by
 intro F0 H0 σ F h H D hL ok fin
 exact hk F0 H0 σ F h H D (zdd_ hL hi fun v k _ _ ho=>zhY_ ho) ok fin
theorem zmo_ {r:Mo α}{k:α→Mo ρ}{kk':ρ→Hp→Hp→Hp→Prop}{kk:α→Hp→Hp→Prop}(ok:Okk F0 H0 F h H) (fin:FinM K (r.bind k) E F0 H0 kk') (hk:∀ a F' H',r=.ok a→Ext (un F h) H F' H'→kk a F' H'):After K r E (un F h) H kk:=by
 cases r with
 | ok a=>exact fun F' H' x=>hk a F' H' rfl x
 | no=>exact fin
 | ex c=>exact fun F' H' x=>fin _ _ _ (ok.back x).1
noncomputable def EvM (K:PySem.W.Frag) (t:TE) (E:XK) (L:List Sl) (i:Nat) (O:Own α) (Or':Own ρ') (r:Mo (ρ'×α)):Prop :=
 ∀ F0 H0 σ F h H (Q:VK),Hold L σ F h→Okk F0 H0 F h H→FinM K r E F0 H0 (fun q F' h' H'=>∀ v h1 h2,Jn h1 h2 h'→Hold (L.set i (.ow O q.2)) σ F' h1→Or'.O q.1 v F' h2→Q v H')→t σ H Q
theorem zmw_ {G2 H2 ka kb hrest hs' hr F' h' H' k:Hp}(o2:Okk F0 H0 (less G2 h) h H2) (j:Jn k hrest h) (jk:Jn ka kb k) (okc:Okk (un (less G2 h) (less h ka)) (less H2 ka) F' h' H') (j':Jn hr hs' h') :
  Same (less G2 h) (less F' (less h ka))∧Tups F' (less F' (less h ka))∧Dj hs' kb∧Dj (un hs' kb) hrest∧Dj (un (un hs' kb) hrest) hr∧Okk F0 H0 (less F' (less h ka)) (un (un (un hs' kb) hrest) hr) H':=by
 have kah:Same ka h:=jk.l.trans j.l
 have kab:∀ q,kb q≠none→h q=kb q∧ka q=none:=fun q z=>by
  cases y:kb q with
  | none=>exact absurd y z
  | some o =>
   refine ⟨j.l _ _ (jk.r _ _ y),?_⟩
   rcases jk.dj q with x | x
   ·exact x
   ·rw [x] at y; cases y
 have rst:∀ q,hrest q≠none→h q=hrest q∧ka q=none:=fun q z=>by
  cases y:hrest q with
  | none=>exact absurd y z
  | some o =>
   refine ⟨j.r _ _ y,?_⟩
   rcases j.dj q with x | x
   ·exact jk.l.free x
   ·rw [x] at y; cases y
 have key:∀ q,h' q≠none→h q≠none→ka q=none→False:=fun q z1 z2 z3=>by
  have:=okc.2.2.2.1 q z1
  rw [zS_ z3] at this
  exact z2 (o2.2.2.1.free this)
 have h0:∀ q,less H2 ka q=none→H0 q=none:=fun q z=>by
  by_cases y:ka q=none
  ·rw [zS_ y] at z; exact o2.1.2.2.1.free z
  ·exact o2.2.2.2.1 q fun x=>y (kah.free x)
 have old:∀ q o,h q=some o→ka q=none→H' q=some o:=fun q o z1 z2=>okc.1.2.2.1 q o (by rw [zS_ z2]; exact o2.2.2.1 _ _ z1)
 have d1:Dj hs' kb:=fun q=>by
  by_cases z:hs' q=none
  ·exact .inl z
  ·by_cases y:kb q=none
   ·exact .inr y
   ·obtain ⟨a,b⟩:=kab q y
    exact (key q (fun x=>z (j'.r.free x)) (by rw [a]; exact y) b).elim
 have d2:Dj (un hs' kb) hrest:=fun q=>by
  by_cases y:hrest q=none
  ·exact .inr y
  ·left
   obtain ⟨a,b⟩:=rst q y
   have z1:hs' q=none:=by
    by_cases z:hs' q=none
    ·exact z
    ·exact (key q (fun x=>z (j'.r.free x)) (by rw [a]; exact y) b).elim
   have z2:kb q=none:=by
    rcases j.dj q with x | x
    ·exact jk.r.free x
    ·exact absurd x y
   unfold un; rw [z1]; exact z2
 have d3:Dj (un (un hs' kb) hrest) hr:=fun q=>by
  by_cases y:hr q=none
  ·exact .inr y
  ·left
   have hq:h' q≠none:=fun x=>y (j'.l.free x)
   have z1:hs' q=none:=by
    rcases j'.dj q with x | x
    ·exact absurd x y
    ·exact x
   have z2:kb q=none:=by
    by_cases z:kb q=none
    ·exact z
    ·obtain ⟨a,b⟩:=kab q z
     exact (key q hq (by rw [a]; exact z) b).elim
   have z3:hrest q=none:=by
    by_cases z:hrest q=none
    ·exact z
    ·obtain ⟨a,b⟩:=rst q z
     exact (key q hq (by rw [a]; exact z) b).elim
   unfold un; rw [z1]; simp only; rw [z2]; exact z3
 have parts:∀ q o,un (un (un hs' kb) hrest) hr q=some o→h' q=some o∨(h q=some o∧ka q=none):=fun q o z=>by
  unfold un at z
  cases z1:hs' q with
  | some a=>rw [z1] at z; left; rw [← z]; exact j'.r _ _ z1
  | none =>
   rw [z1] at z; simp only at z
   cases z2:kb q with
   | some a=>rw [z2] at z; right; obtain ⟨x,y⟩:=kab q (by rw [z2]; exact Option.some_ne_none _); exact ⟨by rw [x,z2]; exact z,y⟩
   | none =>
    rw [z2] at z; simp only at z
    cases z3:hrest q with
    | some a=>rw [z3] at z; right; obtain ⟨x,y⟩:=rst q (by rw [z3]; exact Option.some_ne_none _); exact ⟨by rw [x,z3]; exact z,y⟩
    | none=>rw [z3] at z; left; exact j'.l _ _ z
 have ff:Same (less G2 h) (less F' (less h ka)):=fun b o z=>by
  have hb:h b=none:=by
   cases y:h b with
   | none=>rfl
   | some s=>rw [zaM_ b (by rw [y]; exact Option.some_ne_none _)] at z; cases z
  have:less h ka b=none:=zcu_.free hb
  rw [zS_ this]
  exact okc.1.1 _ _ (zbq_ _ _ z)
 have lo:∀ q',less h ka q'≠none→h q'≠none:=fun q' z y=>z (by unfold less; split; exact y; rfl)
 have tp:Tups F' (less F' (less h ka)):=fun b xs z=>by
  cases y:less h ka b with
  | none=>rw [zS_ y]; exact z
  | some s =>
   exfalso
   have y2:un (less G2 h) (less h ka) b=some s:=by
    unfold un
    have:less G2 h b=none:=zaM_ b (lo b (by rw [y]; exact Option.some_ne_none _))
    rw [this]; exact y
   have:=okc.1.1 _ _ y2
   rw [z] at this
   injection this with this
   exact o2.2.2.2.2 b xs (by rw [this]; exact zcu_ _ _ y)
 refine ⟨ff,tp,d1,d2,d3,⟨o2.1.1.trans ff,fun b o z=>okc.1.2.1 _ _ (zcu_ _ _ z),fun b o z=>?_,fun b a1 a2=>?_⟩,fun b=>?_,fun b o z=>?_,fun b z=>?_,fun b xs z=>?_⟩
 ·have kb0:ka b=none:=by
   by_cases y:ka b=none
   ·exact y
   ·have:=o2.2.2.2.1 b fun x=>y (kah.free x)
    rw [z] at this; cases this
  exact okc.1.2.2.1 b o (by rw [zS_ kb0]; exact o2.1.2.2.1 _ _ z)
 ·by_cases y0:less G2 h b=none
  ·have y:less h ka b=none:=by
    cases y:less h ka b with
    | none=>rfl
    | some s=>exact absurd (zaM_ b (by rw [y]; exact Option.some_ne_none _)) a2
   rw [zS_ y] at a2
   exact h0 b (okc.1.2.2.2 b (by unfold un; rw [y0]; exact y) a2)
  ·exact o2.1.2.2.2 b a1 y0
 ·cases z:un (un (un hs' kb) hrest) hr b with
  | none=>exact .inr rfl
  | some o =>
   left
   rcases parts b o z with y | ⟨y1,y2⟩
   ·rcases okc.2.1 b with x | x
    ·exact zcu_.free x
    ·rw [x] at y; cases y
   ·exact zaM_ b (by rw [zS_ y2,y1]; exact Option.some_ne_none _)
 ·rcases parts b o z with y | ⟨y1,y2⟩
  ·exact okc.2.2.1 _ _ y
  ·exact old b o y1 y2
 ·cases y:un (un (un hs' kb) hrest) hr b with
  | none=>exact absurd y z
  | some o =>
   rcases parts b o y with x | ⟨x,_⟩
   ·exact h0 b (okc.2.2.2.1 b (by rw [x]; exact Option.some_ne_none _))
   ·exact o2.2.2.2.1 b (by rw [x]; exact Option.some_ne_none _)
 ·rcases parts b _ z with y | ⟨y,_⟩
  ·exact okc.2.2.2.2 b xs y
  ·exact o2.2.2.2.2 b xs y
end
end L2
namespace L2
open PySem PySem.Spec PyProof.Rows
section
variable {K:PySem.W.Frag}{E:XK}{α β γ δ ρ ρ' S B:Type}{F0 H0 F h H:Hp}{L:List Sl}{e te ei tc:TE}{T:Ty α}{r:Mo α}{Or:Own ρ}{Or':Own ρ'}{t u:TS}{LS:S→List Sl}{LB:B→List Sl}{σ:St}{C:Addr}{ns:List Str}{f m:Str}{i n w j:Nat}
theorem ze9_ {r:Mo ρ'}{k:ρ'→Mo (Out ρ B S)}{D:Ends}{kk:ρ'→Hp→Hp→Hp→Prop}(fin:Fin K (r.bind k) E LS LB Or F0 H0 D) (hk:∀ q F' h' H',r=.ok q→Okk F0 H0 F' h' H'→kk q F' h' H'):FinM K r E F0 H0 kk:=by
 cases r with
 | ok q=>exact fun F h H o=>hk q F h H rfl o
 | ex c=>exact fin
 | no=>exact fin
theorem zgC_ {O:Own α}{O':Own β}{w:V}{r:Mo (β×(β→α))}(hp:EvPw K te E L i O (owAt w O') r):EvPw K te E L i O O' r:=by
 intro F0 H0 σ F h H Q hL ok q
 refine hp F0 H0 σ F h H _ hL ok (q.imp fun yp G1 H1 x1 k1 uu il hh=>k1 uu il ?_)
 have hi:(L.set i (.ow (owPn uu (owAt w O') yp.2 O) yp.1))[i]?=some (.ow (owPn uu (owAt w O') yp.2 O) yp.1):=by rw [List.getElem?_set_self (by exact il)]
 have:=zdd_ (O2:=owPn uu O' yp.2 O) (x2:=yp.1) hh hi fun v k ev kh ⟨ka,kb,jk,⟨e,ho⟩,wand⟩=>⟨ka,kb,jk,ho,fun z' k1' k' F3 s oz j'=>wand z' k1' k' F3 s ⟨e,oz⟩ j'⟩
 rwa [List.set_set] at this
theorem zqa_ {O:Own α}{r:Mo (ρ'×α)}{s0:Sl}{k:ρ'×α→Mo (Out ρ B S)}(hw:L[w]?=some s0) (hne:i≠w) (hm:EvM K tc E L i O Or' r) (hk:∀ q,EvS K u E ((L.set i (.ow O q.2)).set w (.ow Or' q.1)) (k q) LS LB Or) :
  EvS K (tSeq (tAsg tc (gName w)) u) E L (r.bind k) LS LB Or:=by
 intro F0 H0 σ F h H D hL ok fin
 refine hm F0 H0 σ F h H _ hL ok (ze9_ fin fun q F' h' H' hr o v h1 h2 j hold res=>?_)
 rw [hr] at fin
 have hw':(L.set i (.ow O q.2))[w]?=some s0:=by rw [List.getElem?_set_ne hne]; exact hw
 obtain ⟨_,kw,hrest,e1,jw,_,f⟩:=hold.atM w hw'
 have d:Dj h2 hrest:=fun p=>by
  rcases j.dj p with z | z
  ·exact .inr (jw.r.free z)
  ·exact .inl z
 refine hk q F0 H0 (σ.set w (some v)) F' (un h2 hrest) H' D (f F' (.ow Or' q.1) (some v) h2 _ (Same.refl _) (zdN_ d) ⟨v,rfl,res⟩) (zdD_ o fun p s z=>?_) fin
 unfold un at z
 cases y:h2 p with
 | some w=>rw [y] at z; rw [← z]; exact j.r _ _ y
 | none=>rw [y] at z; exact j.l _ _ (jw.r _ _ z)
theorem zqu_ {O:Own α}{T:Ty β}{r:Mo (β×α)}{xs:List β}{k:β×α→Mo (Out ρ B S)}(hw:L[w]?=some (.ow (owL T) xs)) (hne:i≠w) (hm:EvM K tc E L i O (owF T) r) (hk:∀ q,EvS K u E ((L.set i (.ow O q.2)).set w (.ow (owL T) (xs++[q.1]))) (k q) LS LB Or) :
  EvS K (tSeq (tDrop (tBM K "list" rAppend (mVar w) (tCons tc tNil))) u) E L (r.bind fun q=>.lim (xs.length+1) (k q)) LS LB Or:=by
 intro F0 H0 σ F h H D hL ok fin
 obtain ⟨p,vs,e1,hp,hr,_⟩:=zbL_ hL hw ok
 show mVar w σ H fun x H1=>tyV K "list" x H1∧tCons tc tNil σ H1 fun xs H2=>rAppend x xs H2 (fun _ H3=>u D σ H3)
 refine zcl_ e1 ⟨.inl ⟨rfl,vs,.of hp⟩,?_⟩
 refine hm F0 H0 σ F h H _ hL ok (ze9_ fin fun q F' h' H' hra o v h1 h2 j hold res=>?_)
 rw [hra] at fin
 obtain ⟨hz,fin⟩:=ze8_ (show Fin K (Mo.lim (xs.length+1) (k q)) E LS LB Or F0 H0 D from fin)
 have hw':(L.set i (.ow O q.2))[w]?=some (.ow (owL T) xs):=by rw [List.getElem?_set_ne hne]; exact hw
 obtain ⟨p',vs',e1',hp',hr',mm⟩:=zbL_ hold hw' (zdD_ o j.l)
 rw [e1] at e1'; cases e1'
 obtain ⟨h',a1,a2⟩:=mm (xs++[q.1]) (vs'++[v]) (hr'.append (.cons res.2 .nil))
 exact ⟨p,vs',v,rfl,rfl,hp',by rw [← hr'.len]; omega,hk q F0 H0 σ _ h' _ D a1 a2 fin⟩
theorem ziZ_ {O:Own α}{x:α}{v0:V}(hi:i<L.length) (hL:Hold (L.set i (.ow (owAt v0 O) x)) σ F h):∃ k,Same k h∧O.O x v0 F k:=by
 obtain ⟨_,k,_,_,j,⟨v',_,e3,ho⟩,_⟩:=hL.at i (by rw [List.getElem?_set_self (by exact hi)])
 subst e3
 exact ⟨k,j.l,ho⟩
theorem znP_ {O2:Own α}{v0:V}{r:Mo (ρ×α)}(hi:i<L.length) (hm:EvM K tc E L i (owAt v0 O2) Or r):EvS K (tRet tc) E L (r.bind fun q=>.ok (.rt q)) LS LB (owRM v0 O2 Or):=by
 intro F0 H0 σ F h H D hL ok fin
 refine hm F0 H0 σ F h H _ hL ok (ze9_ fin fun q F' h' H' hr o v h1 h2 j hold res=>?_)
 rw [hr] at fin
 obtain ⟨k,kh,ho⟩:=ziZ_ hi hold
 have d:Dj h2 k:=fun p=>by
  rcases j.dj p with z | z
  ·exact .inr (kh.free z)
  ·exact .inl z
 refine fin v F' (un h2 k) H' (zdD_ o fun p s z=>?_) ⟨h2,k,zdN_ d,res,ho⟩
 unfold un at z
 cases y:h2 p with
 | some w=>rw [y] at z; rw [← z]; exact j.r _ _ y
 | none=>rw [y] at z; exact j.l _ _ (kh _ _ z)
theorem zmJ_ {O2:Own α}{T:Ty β}{v0:V}{r:Mo (β×α)}(hi:i<L.length) (hm:EvM K tc E L i (owAt v0 O2) (owF T) r):EvS K (tRet (tLst (tCons tc tNil))) E L (r.bind fun q=>.ok (.rt ([q.1],q.2))) LS LB (owRM v0 O2 (owL T)):=by
 intro F0 H0 σ F h H D hL ok fin
 show tc σ H fun v H1=>[v].length≤sizeLine∧∀ p,H1 p=none→D.rt (.ref p) (upd H1 p (.lst [v]))
 refine hm F0 H0 σ F h H _ hL ok (ze9_ fin fun q F' h' H' hr o v h1 h2 j hold res=>⟨zeu_ (by simp),fun p hp=>?_⟩)
 rw [hr] at fin
 obtain ⟨k,kh,ho⟩:=ziZ_ hi hold
 have o1:=zdD_ o (kh.trans j.l)
 have hp0:k p=none:=o1.2.2.1.free hp
 have Fp:F' p=none:=o1.1.2.1.free hp
 have H0p:H0 p=none:=o1.1.2.2.1.free hp
 have d:Dj (one p (.lst [v])) k:=fun q=>by
  by_cases z:q=p
  ·rw [z]; exact .inr hp0
  ·left; unfold one; rw [if_neg z]
 have up:∀ b (s:HO) (X:Hp),X p=none→X b=some s→b≠p:=fun b s X z1 z2 z3=>by rw [z3,z1] at z2; cases z2
 refine fin (.ref p) F' (un (one p (.lst [v])) k) _ ⟨⟨o1.1.1,fun b s z=>by rw [zaT_ (up b s F' Fp z)]; exact o1.1.2.1 _ _ z,fun b s z=>by rw [zaT_ (up b s H0 H0p z)]; exact o1.1.2.2.1 _ _ z,o1.1.2.2.2⟩,fun b=>?_,fun b s z=>?_,fun b z=>?_,fun b xs z=>?_⟩ ⟨_,k,zdN_ d,⟨p,[v],rfl,rfl,.cons res.2 .nil⟩,ho⟩
 ·by_cases z:b=p
  ·rw [z]; exact .inl Fp
  ·unfold un one; rw [if_neg z]; exact o1.2.1 b
 ·unfold un one at z
  by_cases y:b=p
  ·rw [y,zaY_]; rw [if_pos y] at z; exact z
  ·rw [if_neg y] at z; rw [zaT_ y]; exact o1.2.2.1 _ _ z
 ·unfold un one at z
  by_cases y:b=p
  ·rw [y]; exact H0p
  ·rw [if_neg y] at z; exact o1.2.2.2.1 b z
 ·unfold un one at z
  by_cases y:b=p
  ·rw [if_pos y] at z; cases z
  ·rw [if_neg y] at z; exact o1.2.2.2.2 b xs z
theorem zlY_ {O2:Own α}{v0:V}{x:α}{a:ρ}(hij:i≠j) (hi:L[i]?=some (.ow (owAt v0 O2) x)) (hj:L[j]?=some (.ow Or a)):EvS K (tRet (mVar j)) E L (.ok (.rt (a,x))) LS LB (owRM v0 O2 Or):=by
 intro F0 H0 σ F h H D hL ok fin
 obtain ⟨_,kj,hr,ej,jj,⟨v,e2,ha⟩,f⟩:=hL.at j hj
 subst e2
 have hd:=f .dead (some v) (fun _=>none) hr (fun p=>.inl ⟨rfl,rfl⟩) trivial
 obtain ⟨_,ki,_,_,ji,⟨v',_,e3,hx⟩,_⟩:=hd.at i (by rw [List.getElem?_set_ne (Ne.symm hij)]; exact hi)
 subst e3
 have d:Dj kj ki:=fun p=>by
  rcases jj.dj p with z | z
  ·exact .inl z
  ·exact .inr (ji.l.free z)
 refine zcl_ ej (fin v F (un kj ki) H (zdD_ ok fun p s z=>?_) ⟨kj,ki,zdN_ d,ha,hx⟩)
 unfold un at z
 cases y:kj p with
 | some w=>rw [y] at z; rw [← z]; exact jj.l _ _ y
 | none=>rw [y] at z; exact jj.r _ _ (ji.l _ _ z)
end
end L2
namespace L2
open PySem PySem.Spec PyProof.Rows
section
variable {K:PySem.W.Frag}{E:XK}{α β γ δ ρ ρ' S B:Type}{F0 H0 F h H:Hp}{L:List Sl}{e te ei tc:TE}{T:Ty α}{r:Mo α}{Or:Own ρ}{Or':Own ρ'}{t u:TS}{LS:S→List Sl}{LB:B→List Sl}{σ:St}{C:Addr}{ns:List Str}{f m:Str}{i n w j:Nat}
theorem ziX_ {lv:List Str}{fr:List (Str×Nat)}{wi:TI}{g:TG}{tt:TT}{te:TE}{r:Mo (List α)}{ss:α→List (Nat×Sl)}{c:α→Mo Bool}{f:α→Mo β}{O':Own β}
  (hi:EvI K wi E L r T) (hg:TgR K g T ss) (hd:∀ a,DeadAt (cL lv fr L) ((ss a).map (·.1))) (ht:∀ a,EvT K tt E0 (setL (cL lv fr L) (ss a)) (c a)) (he:∀ a,EvO K te E0 (setL (cL lv fr L) (ss a)) (f a) O') :
  EvO K (tComp lv fr wi g tt te) E L (r.bind fun xs=>compM (fun x=>cond1 (c x) (f x)) xs []) (owLO O'):=by
 intro σ F0 H0 Q hL hs q
 refine hi σ F0 H0 _ hL hs (q.bind.imp fun xs F1 H1 x1 k1 J Y D hD=>?_)
 have hL1:=hL.mono x1.1
 refine ⟨fun i m ys σ' H'=>m=xs.length-i∧i≤xs.length∧∃ acc Fi hh,Ext F1 H1 Fi H'∧Fi D=none∧hh D=none∧H' D=some (.lst ys)∧OwAll O' Fi acc ys hh∧Dj Fi hh∧Same hh H'∧(∀ p,hh p≠none→H1 p=none)∧HoldF (cL lv fr L) σ' F1∧σ'.length=(cL lv fr L).length∧After K (compM (fun x=>cond1 (c x) (f x)) (xs.drop i) acc) E F1 H1 (OwnK (owLO O') H0 Q),
  ⟨_,rfl,Nat.zero_le _,[],F1,fun _=>none,.heap x1.2.1 (zep_ hD _),x1.2.1.free hD,rfl,zaY_,fun _=>rfl,fun _=>.inr rfl,(fun p o z=>by cases z),fun p z=>absurd rfl z,zgX_ hL1,zjL_.symm,k1⟩,?_⟩
 rintro i m ys σ' H' ⟨rfl,hi,acc,Fi,hh,xi,hDi,hDh,hy,hp,dj,sh,fresh,hσ,hln,A⟩
 by_cases hlt:i<xs.length
 ·right
  have ex:xs[i]?=some xs[i]:=List.getElem?_eq_getElem hlt
  obtain ⟨g1,g2⟩:=Y.go i H' xs[i] (xi.1.trans xi.2.1) ex
  refine ⟨g1,fun ys' σ'' H''=>i+1≤xs.length∧∃ acc Fi hh,Ext F1 H1 Fi H''∧Fi D=none∧hh D=none∧H'' D=some (.lst ys')∧OwAll O' Fi acc ys' hh∧Dj Fi hh∧Same hh H''∧(∀ p,hh p≠none→H1 p=none)∧HoldF (cL lv fr L) σ'' F1∧σ''.length=(cL lv fr L).length∧After K (compM (fun x=>cond1 (c x) (f x)) (xs.drop (i+1)) acc) E F1 H1 (OwnK (owLO O') H0 Q),fun ys' σ'' H'' z=>⟨xs.length-(i+1),by omega,rfl,z⟩,fun v H2 hyl=>?_⟩
  obtain ⟨F2,x2,hv⟩:=g2 v H2 hyl Fi xi.1 xi.2.1
  have keep:∀ {Fa Ha Fb Hb:Hp},Ext Fa Ha Fb Hb→Fa D=none→Ha D=some (.lst ys)→Dj Fa hh→Same hh Ha→(Fb D=none∧Hb D=some (.lst ys))∧Dj Fb hh∧Same hh Hb:=by
   intro Fa Ha Fb Hb x h1 h2 h3 h4
   refine ⟨⟨?_,x.2.2.1 _ _ h2⟩,fun p=>?_,h4.trans x.2.2.1⟩
   ·cases z:Fb D with
    | none=>rfl
    | some o=>have:=x.2.2.2 D h1 (by rw [z]; exact Option.some_ne_none _); rw [h2] at this; cases this
   ·cases y:hh p with
    | none=>exact .inr rfl
    | some w =>
     left
     rcases h3 p with z | z
     ·cases zz:Fb p with
      | none=>rfl
      | some o=>have:=x.2.2.2 p z (by rw [zz]; exact Option.some_ne_none _); rw [h4 _ _ y] at this; cases this
     ·rw [z] at y; cases y
  obtain ⟨⟨hD2,hy2⟩,dj2,sh2⟩:=keep x2 hDi hy dj sh
  refine hg xs[i] v σ' F2 H2 _ x2.2.1 hv fun vs hpl=>?_
  have hσ2:HoldF (cL lv fr L) σ' F2:=hσ.mono (xi.1.trans x2.1)
  obtain ⟨a1,a2,a3⟩:=zfP_ hpl hln.symm hσ2
  have hσd:HoldF (cL lv fr L) (setS σ' vs) F1:=by
   have hdead:=hd xs[i]
   refine fun j s e=>?_
   by_cases hj:∃ q∈(ss xs[i]).map (·.1),q=j
   ·obtain ⟨q,hq,rfl⟩:=hj
    rw [hdead q hq s e]; trivial
   ·have:((setS σ' vs)[j]?)=σ'[j]?:=zkk_ hpl (fun hq=>hj ⟨j,hq,rfl⟩)
    rw [this]; exact hσ j s e
  have hdrop:xs.drop i=xs[i]::xs.drop (i+1):=List.drop_eq_getElem_cons hlt
  rw [hdrop] at A
  unfold compM at A
  cases ec:c xs[i] with
  | no=>unfold cond1 at A; rw [ec] at A; exact A.elim
  | ex cc=>unfold cond1 at A; rw [ec] at A; exact A.elim
  | ok bb =>
   refine ht xs[i] _ F2 H2 _ a1 x2.2.1 ?_
   rw [ec]
   intro F3 H3 x3
   obtain ⟨⟨hD3,hy3⟩,dj3,sh3⟩:=keep x3 hD2 hy2 dj2 sh2
   have x13:=(xi.trans x2).trans x3
   cases bb with
   | false =>
    rw [if_neg (by decide)]
    refine ⟨hlt,acc,F3,hh,x13,hD3,hDh,hy3,hp.mono (x2.1.trans x3.1),dj3,sh3,fresh,hσd,by rw [a2]; exact hln,?_⟩
    unfold cond1 at A; rw [ec] at A
    exact A
   | true =>
    rw [if_pos rfl]
    cases ef:f xs[i] with
    | no=>unfold cond1 at A; rw [ec,ef] at A; exact A.elim
    | ex cc=>unfold cond1 at A; rw [ec,ef] at A; exact A.elim
    | ok y =>
     unfold cond1 at A; rw [ec,ef] at A
     have A':After K (Mo.lim (acc.length+1) (compM (fun x=>cond1 (c x) (f x)) (xs.drop (i+1)) (acc++[y]))) E F1 H1 (OwnK (owLO O') H0 Q):=A
     obtain ⟨hz,A'⟩:=A'.lim
     refine he xs[i] _ F3 H3 _ (a1.mono x3.1) x3.2.1 ?_
     rw [ef]
     intro F4 H4 x4 v4 hn fr4 dj4n sn4 hv4
     obtain ⟨⟨hD4,hy4⟩,dj4,sh4⟩:=keep x4 hD3 hy3 dj3 sh3
     have hlen:=hp.len
     have hnD:hn D=none:=by
      cases z:hn D with
      | none=>rfl
      | some w=>have:=fr4 D (by rw [z]; exact Option.some_ne_none _); rw [hy3] at this; cases this
     have djn:Dj hh hn:=fun p=>by
      cases z:hn p with
      | none=>exact .inr rfl
      | some w=>exact .inl (sh3.free (fr4 p (by rw [z]; exact Option.some_ne_none _)))
     have x14:=x13.trans x4
     refine ⟨hy4,by omega,hlt,acc++[y],F4,un hh hn,?_,hD4,by unfold un; rw [hDh]; exact hnD,zaY_,(hp.mono ((x2.1.trans x3.1).trans x4.1)).snoc hv4 djn,fun p=>?_,fun p o z=>?_,fun p z=>?_,hσd,by rw [a2]; exact hln,A'⟩
     ·refine ⟨x14.1,fun b o z=>?_,fun b o z=>?_,x14.2.2.2⟩
      ·unfold upd; split
       ·rename_i w; rw [w,hD4] at z; cases z
       ·exact x14.2.1 _ _ z
      ·unfold upd; split
       ·rename_i w; rw [w,hD] at z; cases z
       ·exact x14.2.2.1 _ _ z
     ·unfold un
      cases z:hh p with
      | some w =>
       rcases dj4 p with y | y
       ·exact .inl y
       ·rw [y] at z; cases z
      | none=>exact dj4n p
     ·have hpD:p≠D:=fun w=>by
       unfold un at z; rw [w,hDh,hnD] at z; cases z
      unfold upd; rw [if_neg hpD]
      unfold un at z
      cases w:hh p with
      | some o'=>rw [w] at z; cases z; exact sh4 _ _ w
      | none=>rw [w] at z; exact sn4 _ _ z
     ·unfold un at z
      cases w:hh p with
      | some o'=>exact fresh p (by rw [w]; exact Option.some_ne_none _)
      | none=>rw [w] at z; exact x13.2.2.1.free (fr4 p z)
 ·left
  have e:i=xs.length:=by omega
  subst e
  refine ⟨Y.stop H' (xi.1.trans xi.2.1),?_⟩
  rw [List.drop_length] at A
  have A':OwnK (owLO O') H0 Q acc Fi H':=A Fi H' xi
  have dD:Dj (one D (.lst ys)) hh:=fun p=>by
   unfold one; split
   ·rename_i w; rw [w]; exact .inr hDh
   ·exact .inl rfl
  refine A' (.ref D) (un (one D (.lst ys)) hh) (fun p z=>?_) (fun p=>?_) (fun p o z=>?_) ⟨D,ys,hh,rfl,zdN_ dD,hp⟩
  ·unfold un one at z
   by_cases w:p=D
   ·rw [w]; exact x1.2.2.1.free hD
   ·simp only [if_neg w] at z; exact x1.2.2.1.free (fresh p z)
  ·by_cases w:p=D
   ·rw [w]; exact .inl hDi
   ·unfold un one; simp only [if_neg w]; exact dj p
  ·unfold un one at z
   by_cases w:p=D
   ·simp only [if_pos w] at z; rw [w]; cases z; exact hy
   ·simp only [if_neg w] at z; exact sh _ _ z
theorem zhb_ {P:Ps γ}{P':Ps δ}{O1:Own α}{ad:γ→α→δ}{x:γ}{w:V}{k:δ→Mo (Out ρ B S)}(hi:L[i]?=some (.ow (owAt w (owI C ns P)) x)) (hf:f∉ns) (hsm:ns.length<900) (pp:PsAdd P O1 P' ad) (hO:ImmO O1) (he:EvO K e E L r O1) (hk:∀ x',EvS K u E (L.set i (.ow (owAt w (owI C (ns++[f]) P')) x')) (k x') LS LB Or) :
  EvS K (tSeq (mSFld C (mVar i) e f) u) E L (r.bind fun a=>(Mo.ok (ad x a)).bind k) LS LB Or:=by
 intro F0 H0 σ F h H D hL ok fin
 refine he σ (un F h) H _ (hL.froz ok.2.1) ok.thaw (zby_ (G:=F) ok _ (.inl rfl) fin fun a F' H' hra x1 v hn fresh dj hsn hv=>?_)
 obtain ⟨o,hs,ht⟩:=ok.back x1
 rw [hra] at fin
 obtain ⟨v0,k0,e1,⟨ew,p,dx,vs,m,rfl,ndx,jn,hl,ps⟩,kH,kh,_,g⟩:=zhZ_ (hL.mono hs) hi o
 have hp1:H' p=some (.ins C dx (ns.zip vs)):=kH _ _ (jn.l _ _ ziH_)
 refine zcl_ e1 ⟨dx,_,hp1,by rw [List.length_zip]; omega,?_⟩
 rw [zhK_ v hf hl]
 have fr:∀ q,hn q≠none→less F' h q=none∧h q=none∧H0 q=none:=fun q z=>⟨by
  rcases dj q with y | y
  ·exact zcu_.free y
  ·exact absurd y z,ok.2.2.1.free (fresh q z),ok.1.2.2.1.free (fresh q z)⟩
 have dn:Dj hn m:=fun q=>by
  by_cases z:hn q=none
  ·exact .inl z
  ·exact .inr (jn.r.free (kh.free (fr q z).2.1))
 obtain ⟨j',PC⟩:=zjy_ (o':=.ins C dx ((ns++[f]).zip (vs++[v]))) (hn:=hn) o kh ndx jn (Same.refl m) fr hsn dn
 obtain ⟨h',a1,a2⟩:=g (owAt w (owI C (ns++[f]) P')) (ad x a) (.ref p) _ _ _ PC ⟨ew,p,dx,vs++[v],un hn m,rfl,ndx,j',by rw [List.length_append,List.length_append,hl]; rfl,pp ps a v hn _ _ (Same.refl _) (hO ht hv) (zdN_ dn)⟩
 rw [zb2_ e1] at a1
 exact hk _ F0 H0 σ _ h' _ D a1 a2 fin
theorem zn8_ {κ:Type} [DecidableEq κ] {KY:KyT κ}{O:Own β}{mm:Mo (List (κ×α)×(List (κ×α)→β))}{r2:Mo κ}{e2:TE}{k:β→Mo (Out ρ B S)}(hp:EvPt K te E L i O (owD KY T) mm) (hT:Imm T) (hKT:Imm KY.T) (he:EvF K e E L r T) (he2:EvF K e2 E L r2 KY.T) (hk:∀ x',EvS K u E (L.set i (.ow O x')) (k x') LS LB Or) :
  EvS K (tSeq (mDPut te e2 e) u) E L (r.bind fun a=>mm.bind fun yp=>r2.bind fun y=>.lim (yp.1.length+1) ((Mo.ok (yp.2 (putA yp.1 y a))).bind k)) LS LB Or:=by
 intro F0 H0 σ F h H D hL ok fin
 show e σ H fun v H1=>te σ H1 fun x H2=>e2 σ H2 fun y H3=>atD x y H3 fun a kvs k=>kvs.length<sizeLine∧u D σ (upd H3 a (.dK (putK kvs k v)))
 refine he σ (un F h) H _ (hL.froz ok.2.1) ok.thaw (zby_ (G:=F) ok _ (.inl rfl) fin fun a F1 H1 hra x1 v hv=>?_)
 obtain ⟨o,hs,ht⟩:=ok.back x1
 rw [hra] at fin
 have hL':=hL.mono hs
 have hv':=hT ht hv
 refine hp F0 H0 σ _ h H1 _ hL' o (zby_ (G:=F) o _ (.inl rfl) fin fun yp G1 H2 hr0 x2 u0 fc=>?_)
 obtain ⟨o1,hs1,_⟩:=o.back x2
 rw [hr0] at fin
 refine he2 σ (un (less G1 h) h) H2 _ ((hL'.mono hs1).froz o1.2.1) o1.thaw (zby_ (G:=F) o1 _ (.inl rfl) fin fun y F2 H3 hry x3 v2 hv2=>?_)
 obtain ⟨o2,hs2,ht2⟩:=o1.back x3
 rw [hry] at fin
 obtain ⟨hz,fin⟩:=ze8_ (show Fin K (Mo.lim (yp.1.length+1) (k (yp.2 (putA yp.1 y a)))) E LS LB Or F0 H0 D from fin)
 obtain ⟨k1,⟨p,kvs,rfl,rfl,pr⟩,kh',g⟩:=fc _ H3 hs2 o2
 obtain ⟨h',a1,a2⟩:=g (putA yp.1 y a) (one p (.dK (putK kvs (KY.key y) v))) _ (upd H3 p (.dK (putK kvs (KY.key y) v))) (PutC.one o2 kh') ⟨p,_,rfl,rfl,zmk_ pr y (T.mono (hs1.trans hs2) hv')⟩
 unfold atD
 simp only
 rw [KY.of hv2]
 refine ⟨kvs,o2.2.2.1 _ _ (kh' _ _ zbk_),?_,hk _ F0 H0 σ _ h' _ D a1 a2 fin⟩
 have:=Paired.length pr
 omega
end
end L2
namespace L2
open PySem PySem.Spec PyProof.Rows
section
variable {K:PySem.W.Frag}{E:XK}{L:List Sl}
noncomputable def rngD (hi:Int) (n:Nat):List Int:=(List.range n).map fun (i:Nat)=>hi+i*(-1)
theorem zo6_ {hi:Int}{n:Nat}{F1:Hp}:Yl K (Itp n fun k=>.int (hi+k*(-1))) (rngD hi n) tyInt F1:=by
 refine ⟨fun i H x hH hx=>?_,fun H hH=>?_⟩
 ·unfold rngD at hx
  rw [List.getElem?_map] at hx
  cases e:(List.range n)[i]? with
  | none=>rw [e] at hx; cases hx
  | some c =>
   rw [e] at hx; cases hx
   obtain ⟨hi,e⟩:=List.getElem?_eq_some_iff.mp e
   rw [List.getElem_range] at e; subst e
   rw [List.length_range] at hi
   refine ⟨hi,?_⟩
   rintro v H' ⟨rfl,rfl⟩ F _ hF
   exact ⟨F,.refl hF,rfl⟩
 ·show n≤_
  unfold rngD; rw [List.length_map,List.length_range]; exact Nat.le_refl _
end
section
variable {K:PySem.W.Frag}{E:XK}{α β ρ B:Type}{F0 H0 F h H:Hp}{L:List Sl}{te:TE}{Or:Own ρ}{tb:TS}{LB:B→List Sl}{i w:Nat}
noncomputable def mapX (step:β→Mo β):List β→Mo (List β)
 | []=>.ok []
 | x::xs=>(step x).bind fun y=>(mapX step xs).bind fun ys=>.ok (y::ys)
theorem zpW_ {O:Own α}{O':Own β}{r0:Mo (List β×(List β→α))}{step:β→Mo β}{s0:Sl}(hw:L[w]?=some s0) (hne:i≠w) (hp:EvPw K te E L i O (owLO O') r0)
  (hb:∀ (uu v:V) (put:List β→α) (xs:List β) (k:Nat) (z:β),EvS K tb E ((L.set i (.ow (owPn v O' (fun z'=>xs.set k z') (owPn uu (owLO O') put O)) z)).set w (.fz (tyIs v) ())) ((step z).bind fun z'=>.ok (.nx z'))
   (fun z'=>(L.set i (.ow (owPn v O' (fun z'=>xs.set k z') (owPn uu (owLO O') put O)) z')).set w .dead) (fun z':β=>(L.set i (.ow (owPn v O' (fun z'=>xs.set k z') (owPn uu (owLO O') put O)) z')).set w .dead) Or) :
  EvS K (tFor (iAny K te) (gName w) tb) E L (r0.bind fun yp=>(mapX step yp.1).bind fun xs=>.ok (.nx (yp.2 xs))) (fun x'=>(L.set i (.ow O x')).set w .dead) LB Or:=by
 intro F0 H0 σ F h H D hL ok fin
 have dd:∀ {s:Sl}{σ F h},Hold (L.set i s) σ F h→Hold ((L.set i s).set w .dead) σ F h:=fun {s σ F h} hL=>by
  have hw':(L.set i s)[w]?=some s0:=by rw [List.getElem?_set_ne hne]; exact hw
  obtain ⟨o,k,hr,e1,j,_,f⟩:=hL.at w hw'
  have:=f .dead o k h j trivial
  rwa [zb2_ e1] at this
 unfold tFor iAny
 refine hp F0 H0 σ F h H _ hL ok (zby_ (G:=F) ok _ (.inl rfl) fin fun yp G1 H1 hr0 x1 uu il hh=>?_)
 obtain ⟨o1,_,_⟩:=ok.back x1
 rw [hr0] at fin
 have hi:∀ {xs},((L.set i (.ow (owPn uu (owLO O') yp.2 O) xs)).set w .dead)[i]?=some (.ow (owPn uu (owLO O') yp.2 O) xs):=fun {xs}=>by rw [List.getElem?_set_ne (Ne.symm hne),List.getElem?_set_self (by exact il)]
 have ss:∀ {s1 s2:Sl},((L.set i s1).set w .dead).set i s2=(L.set i s2).set w .dead:=fun {s1 s2}=>by rw [List.set_comm _ _ (Ne.symm hne),List.set_set]
 have at0:∀ {xs σ F h H},Hold ((L.set i (.ow (owPn uu (owLO O') yp.2 O) xs)).set w .dead) σ F h→Okk F0 H0 F h H→∃ p vs,uu=.ref p∧h p=some (.lst vs)∧H p=some (.lst vs)∧vs.length=xs.length:=fun {xs σ F h H} hL ok=>by
  obtain ⟨_,_,_,_,j,⟨_,_,ka,kb,jk,⟨p,vs,m,e,jn,all⟩,_⟩,_⟩:=hL.at i hi
  have hp:=j.l _ _ (jk.l _ _ (jn.l _ _ zbk_))
  exact ⟨p,vs,e,hp,ok.2.2.1 _ _ hp,all.len.symm⟩
 obtain ⟨p,vs0,rfl,_,hp0,_⟩:=at0 (dd hh) o1
 refine .inl ⟨⟨vs0,.of hp0⟩,?_⟩
 refine ⟨fun k m σ H=>∃ (ys rest:List β) (F h:Hp),m=rest.length∧ys.length=k∧Hold ((L.set i (.ow (owPn (.ref p) (owLO O') yp.2 O) (ys++rest))).set w .dead) σ F h∧Okk F0 H0 F h H∧Fin K ((mapX step rest).bind fun zs=>.ok (.nx (yp.2 (ys++zs)))) E (fun x'=>(L.set i (.ow O x')).set w .dead) LB Or F0 H0 D,⟨_,[],yp.1,_,h,rfl,rfl,dd hh,o1,fin⟩,?_⟩
 rintro k m σ H ⟨ys,rest,F,h,rfl,rfl,hL,ok,fin⟩
 obtain ⟨p',vs,e,hv,hH,hlen⟩:=at0 hL ok
 cases e
 cases rest with
 | nil =>
  left
  refine ⟨⟨vs,.of hH,by rw [hlen]; simp⟩,fin σ F h H ?_ ok⟩
  have:=zdd_ (O2:=O) (x2:=yp.2 (ys++[])) hL hi fun v k _ _ ho=>zhY_ ho
  rwa [ss] at this
 | cons z rest =>
  right
  have hlt:ys.length<vs.length:=by rw [hlen]; simp
  have ek:vs[ys.length]?=some vs[ys.length]:=List.getElem?_eq_getElem hlt
  refine ⟨⟨vs,vs[ys.length],.of hH,ek⟩,fun σ' H'=>∃ (ys' rest':List β) (F h:Hp),rest'.length=rest.length∧ys'.length=ys.length+1∧Hold ((L.set i (.ow (owPn (.ref p) (owLO O') yp.2 O) (ys'++rest'))).set w .dead) σ' F h∧Okk F0 H0 F h H'∧Fin K ((mapX step rest').bind fun zs=>.ok (.nx (yp.2 (ys'++zs)))) E (fun x'=>(L.set i (.ow O x')).set w .dead) LB Or F0 H0 D,
   fun σ' H' ⟨ys',rest',F,h,a,b,c⟩=>⟨rest'.length,by rw [List.length_cons,a]; exact Nat.lt_succ_self _,ys',rest',F,h,rfl,b,c⟩,fun v H2 hy=>?_⟩
  obtain ⟨rfl,zz⟩:=hy
  have ev:=zz vs (.of hH)
  rw [ek] at ev
  injection ev with ev
  subst ev
  have ez:(ys++z::rest)[ys.length]?=some z:=by simp
  have hin:=zdd_ (O2:=owPn vs[ys.length] O' (fun z'=>(ys++z::rest).set ys.length z') (owPn (.ref p) (owLO O') yp.2 O)) (x2:=z) hL hi fun v0 k ev kh ⟨ka,kb,jk,hlo,wand⟩=>by
   obtain ⟨k1,k2,j1,o1,g⟩:=zjV_ hv ek ez F ka (jk.l.trans kh) hlo
   obtain ⟨mm,jm,jh⟩:=zdM_ j1 jk
   refine ⟨k1,mm,jh,o1,fun z' k1' k' F3 s oz j'=>?_⟩
   obtain ⟨d,jg⟩:=zj2_ jm j'
   exact ⟨un k1' k2,kb,jg,g z' k1' _ F3 s oz (zdN_ d),fun z'' k1'' k'' F4 s'=>wand z'' k1'' k'' F4 (s.trans s')⟩
  rw [ss] at hin
  have hw2:∀ {s:Sl},((L.set i s).set w .dead)[w]?=some .dead:=fun {s}=>by rw [List.getElem?_set_self]; rw [List.length_set]; exact (List.getElem?_eq_some_iff.mp hw).1
  have hin2:=zd6_ (T:=tyIs vs[ys.length]) (a:=()) (v:=vs[ys.length]) hw2 hin rfl
  rw [List.set_set] at hin2
  refine hb (.ref p) vs[ys.length] yp.2 (ys++z::rest) ys.length z F0 H0 (σ.set w (some vs[ys.length])) F h H2 _ hin2 ok ?_
  have em:∀ z',step z=.ok z'→((mapX step (z::rest)).bind fun zs=>(.ok (.nx (yp.2 (ys++zs))):Mo (Out ρ B α)))=(mapX step rest).bind fun zs=>.ok (.nx (yp.2 (ys++[z']++zs))):=fun z' e=>by
   show ((step z).bind fun y=>(mapX step rest).bind fun ys=>.ok (y::ys)).bind _=_
   rw [e]
   cases mapX step rest with
   | ok zs=>show Mo.ok (Out.nx (yp.2 (ys++(z'::zs))))=Mo.ok (Out.nx (yp.2 (ys++[z']++zs))); rw [List.append_assoc]; rfl
   | ex c=>rfl
   | no=>rfl
  cases e:step z with
  | no=>unfold mapX at fin; rw [e] at fin; exact fin
  | ex c=>unfold mapX at fin; rw [e] at fin; exact fin
  | ok z' =>
   rw [em z' e] at fin
   intro σ' F' h' H' hL' ok'
   refine ⟨ys++[z'],rest,F',h',rfl,by simp,?_,ok',fin⟩
   have hi2:((L.set i (.ow (owPn vs[ys.length] O' (fun z'=>(ys++z::rest).set ys.length z') (owPn (.ref p) (owLO O') yp.2 O)) z')).set w .dead)[i]?=some (.ow (owPn vs[ys.length] O' (fun z'=>(ys++z::rest).set ys.length z') (owPn (.ref p) (owLO O') yp.2 O)) z'):=by rw [List.getElem?_set_ne (Ne.symm hne),List.getElem?_set_self (by exact il)]
   have:=zdd_ (O2:=owPn (.ref p) (owLO O') yp.2 O) (x2:=ys++[z']++rest) hL' hi2 fun v k _ _ ho=>by
    have:=zhY_ ho
    rwa [show (ys++z::rest).set ys.length z'=ys++[z']++rest by simp] at this
   rwa [ss] at this
end
end L2
namespace L2
open PySem PySem.Spec PyProof.Rows
section
variable {K:PySem.W.Frag}{E:XK}{α β γ δ ρ ρ' S B:Type}{F0 H0 F h H:Hp}{L:List Sl}{e te ei tc:TE}{ta:TA}{T:Ty α}{r:Mo α}{Or:Own ρ}{Or':Own ρ'}{t u:TS}{LS:S→List Sl}{LB:B→List Sl}{σ:St}{C:Addr}{ns:List Str}{f m:Str}{i n w j:Nat}
noncomputable def EvN (K:PySem.W.Frag) (e:TE) (E:XK) (L:List Sl) (r:Mo α) (T:Ty α):Prop :=
 ∀ σ F H (Q:VK),HoldF L σ F→Same F H→After K r E F H (fun a G H'=>∀ v,(∀ h,Same h F→(∀ p xs,h p≠some (.tup xs))→T.R a v (less G h))→Q v H')→e σ H Q
noncomputable def EvAN (K:PySem.W.Frag) (t:TA) (E:XK) (L:List Sl) (r:Mo γ) (C:Cs γ):Prop :=
 ∀ σ F H (Q:List V→Hp→Prop),HoldF L σ F→Same F H→After K r E F H (fun c G H'=>∀ vs,(∀ h,Same h F→(∀ p xs,h p≠some (.tup xs))→C.R c vs (less G h))→Q vs H')→t σ H Q
theorem zh5_ {G:Hp}(s:Same h G) (nt:∀ p xs,h p≠some (.tup xs)):Tups G (less G h):=fun p xs z=>by
 cases y:h p with
 | none=>rw [zS_ y]; exact z
 | some o=>have:=s _ _ y; rw [z] at this; cases this; exact absurd y (nt p xs)
theorem zff_ (hT:Imm T) (he:EvF K e E L r T):EvN K e E L r T:=by
 intro σ F H Q hL hs q
 exact he σ F H Q hL hs (q.imp fun a G H' x k v hv=>k v fun h sh nt=>hT (zh5_ (sh.trans x.1) nt) hv)
theorem zl0_ {O1:Own α}(hO:ImmO O1) (he:EvO K e E L r O1):EvN K e E L r O1.fr:=by
 intro σ F H Q hL hs q
 refine he σ F H Q hL hs ?_
 cases r with
 | no=>exact q
 | ex c=>exact q
 | ok a =>
  intro F' H' x v hn fresh dj sn ho
  refine q (un F' hn) H' ⟨x.1.trans zbq_,fun p o z=>?_,x.2.2.1,fun p a b=>?_⟩ v fun h sh nt=>?_
  ·unfold un at z
   cases y:F' p with
   | some w=>rw [y] at z; rw [← z]; exact x.2.1 _ _ y
   | none=>rw [y] at z; exact sn _ _ z
  ·unfold un at b
   cases y:F' p with
   | some w=>exact x.2.2.2 p a (by rw [y]; exact Option.some_ne_none _)
   | none=>rw [y] at b; exact fresh p b
  ·have d2:Dj (less F' h) hn:=fun p=>by
    rcases dj p with z | z
    ·exact .inl (zcu_.free z)
    ·exact .inr z
   refine O1.fr.mono (fun p o z=>?_) (O1.frz d2 (hO (zh5_ (sh.trans x.1) nt) ho))
   unfold un at z
   cases y:less F' h p with
   | some w =>
    rw [y] at z
    have hp:h p=none:=by
     cases y2:h p with
     | none=>rfl
     | some s=>rw [zaM_ p (by rw [y2]; exact Option.some_ne_none _)] at y; cases y
    rw [zS_ hp] at y ⊢
    unfold un; rw [y]; exact z
   | none =>
    rw [y] at z
    have hp:h p=none:=by
     cases y2:h p with
     | none=>rfl
     | some s =>
      have z':hn p=some o:=z
      have:=fresh p (by rw [z']; exact Option.some_ne_none _)
      rw [hs _ _ (sh _ _ y2)] at this; cases this
    rw [zS_ hp] at y ⊢
    unfold un; rw [y]; exact z
theorem zoe_:EvAN K tNil E L (.ok ()) csNil:=fun σ F H Q hL hs q=>q.ok hs [] fun _ _ _=>rfl
theorem zdL_ (h:EvN K e E L r T):EvAN K (tCons e tNil) E L r (csLast T):=by
 intro σ F H Q hL hs q
 exact h σ F H _ hL hs (q.imp fun a G H' x k v hv=>k [v] fun h sh nt=>⟨v,rfl,hv h sh nt⟩)
theorem zkF_ {r2:Mo γ}{C:Cs γ}(h:EvN K e E L r T) (h2:EvAN K ta E L r2 C):EvAN K (tCons e ta) E L (r.bind fun a=>r2.bind fun c=>.ok (a,c)) (csCons T C):=by
 intro σ F H Q hL hs q
 refine h σ F H _ hL hs (q.bind.imp fun a G1 H1 x1 k1 v hv=>?_)
 refine h2 σ G1 H1 _ (hL.mono x1.1) x1.2.1 (k1.bind.imp fun c G2 H2 x2 k2 vs hvs=>?_)
 exact k2.ok x2.2.1 (v::vs) fun h sh nt=>⟨v,vs,rfl,T.mono (zeT_ x2.1) (hv h sh nt),hvs h (sh.trans x1.1) nt⟩
theorem zca_ {O:Own α}{P:Ps β}{r0:Mo (β×(β→α))}{Q:Cs γ}{ta:TA}{ra:Mo γ}{g:β→γ→Mo (ρ'×β)}{Or':Own ρ'}(hno:m∉ns) (hI:ImmO (owI C ns P)) (hR:ImmO Or') (hp:EvPw K te E L i O (owI C ns P) r0) (ha:EvAN K ta E L ra Q) :
  EvM K (tMeth C m (CtM K (owI C ns P) (owI C ns P) Q g Or') [] E0 te ta) E L i O Or' (r0.bind fun yp=>ra.bind fun c=>(g yp.1 c).noex.bind fun q=>.ok (q.1,yp.2 q.2)):=by
 intro F0 H0 σ F h H R hL ok fin
 show te σ H fun x H1=>∃ a dx fs,x=.ref a∧H1 a=some (.ins C dx fs)∧fs.lookup m=none∧ta σ H1 fun vs H2=>CtM K (owI C ns P) (owI C ns P) Q g Or' (x::(vs++[])) H2 R E0
 refine hp F0 H0 σ F h H _ hL ok (zmo_ ok fin fun yp G1 H1 hr0 x1 uu il hh=>?_)
 obtain ⟨o1,hs1,_⟩:=ok.back x1
 rw [hr0] at fin
 have hi:(L.set i (.ow (owPn uu (owI C ns P) yp.2 O) yp.1))[i]?=some (.ow (owPn uu (owI C ns P) yp.2 O) yp.1):=by rw [List.getElem?_set_self (by exact il)]
 obtain ⟨_,_,_,_,j0,⟨_,_,ka0,kb0,jk0,⟨p,dx,vs0,m0,rfl,ndx,jn,hl,ps⟩,_⟩,_⟩:=hh.at i hi
 refine ⟨p,dx,_,rfl,o1.2.2.1 _ _ (j0.l _ _ (jk0.l _ _ (jn.l _ _ ziH_))),zbm_ hno,?_⟩
 refine ha σ (un (less G1 h) h) H1 _ ((hL.mono hs1).froz o1.2.1) o1.thaw (zmo_ o1 fin fun c G2 H2 hra x2 vs hvs=>?_)
 obtain ⟨o2,hs2,ht2⟩:=o1.back x2
 rw [hra] at fin
 rw [List.append_nil]
 obtain ⟨_,k,hrest,e1,j,⟨v0,rfl,ka,kb,jk,hO,wand⟩,f⟩:=(hh.mono hs2).atM i hi
 have kh1:Same ka h:=jk.l.trans j.l
 have sFc:Same (un (less G2 h) (less h ka)) H2:=fun q o z=>by
  unfold un at z
  cases y:less G2 h q with
  | some s=>rw [y] at z; rw [← z]; exact o2.1.2.1 _ _ y
  | none=>rw [y] at z; exact o2.2.2.1 _ _ (zcu_ _ _ z)
 have djc:Dj (un (less G2 h) (less h ka)) ka:=fun q=>by
  by_cases z:ka q=none
  ·exact .inr z
  ·left
   unfold un
   have:less G2 h q=none:=zaM_ q fun y=>z (kh1.free y)
   rw [this]; exact zaM_ q z
 refine ⟨un (less G2 h) (less h ka),ka,yp.1,c,.ref p,vs,rfl,sFc,djc,kh1.trans o2.2.2.1,(owI C ns P).mono zbq_ hO,Q.mono zbq_ (hvs h (zhv_ o1.2.1) o1.2.2.2.2),?_⟩
 have fin:FinM K ((g yp.1 c).noex.bind fun q=>.ok (q.1,yp.2 q.2)) E F0 H0 _:=fin
 cases e:g yp.1 c with
 | no=>rw [e] at fin; exact fin
 | ex cc=>rw [e] at fin; exact fin.elim
 | ok q =>
  rw [e] at fin
  rintro F' h' H' okc v ⟨hr,hs',j',hRes,hO2⟩
  obtain ⟨ff,tp,d1,d2,d3,okk⟩:=zmw_ o2 j jk okc j'
  have hold:=f (less F' (less h ka)) (.ow O (yp.2 q.2)) (some v0) (un hs' kb) _ ff (zdN_ d2) ⟨v0,rfl,wand q.2 hs' _ _ ff (hI tp hO2) (zdN_ d1)⟩
  rw [zb2_ e1,List.set_set] at hold
  exact fin _ _ H' okk v _ hr (zdN_ d3) hold (hR tp hRes)
theorem zmd_ {O:Own α}{r:Mo (ρ'×α)}{k:ρ'×α→Mo (Out ρ B S)}(hm:EvM K tc E L i O Or' r) (hk:∀ q,EvS K u E (L.set i (.ow O q.2)) (k q) LS LB Or):EvS K (tSeq (tDrop tc) u) E L (r.bind k) LS LB Or:=by
 intro F0 H0 σ F h H D hL ok fin
 show tc σ H fun _ H3=>u D σ H3
 refine hm F0 H0 σ F h H _ hL ok (ze9_ fin fun q F' h' H' hr o v h1 h2 j hold res=>?_)
 rw [hr] at fin
 exact hk q F0 H0 σ F' h1 H' D hold (zdD_ o j.l) fin
theorem zoh_ {O:Own α}{O1:Own β}{r:Mo (β×α)}{xs:List β}{k:β×α→Mo (Out ρ B S)}(hw:L[w]?=some (.ow (owL O1.fr) xs)) (hne:i≠w) (hm:EvM K tc E L i O O1 r) (hk:∀ q,EvS K u E ((L.set i (.ow O q.2)).set w (.ow (owL O1.fr) (xs++[q.1]))) (k q) LS LB Or) :
  EvS K (tSeq (tDrop (tBM K "list" rAppend (mVar w) (tCons tc tNil))) u) E L (r.bind fun q=>.lim (xs.length+1) (k q)) LS LB Or:=by
 intro F0 H0 σ F h H D hL ok fin
 obtain ⟨p,vs,e1,hp,hr,_⟩:=zbL_ hL hw ok
 show mVar w σ H fun x H1=>tyV K "list" x H1∧tCons tc tNil σ H1 fun xs H2=>rAppend x xs H2 (fun _ H3=>u D σ H3)
 refine zcl_ e1 ⟨.inl ⟨rfl,vs,.of hp⟩,?_⟩
 refine hm F0 H0 σ F h H _ hL ok (ze9_ fin fun q F' h' H' hra o v h1 h2 j hold res=>?_)
 rw [hra] at fin
 obtain ⟨hz,fin⟩:=ze8_ (show Fin K (Mo.lim (xs.length+1) (k q)) E LS LB Or F0 H0 D from fin)
 have hw':(L.set i (.ow O q.2))[w]?=some (.ow (owL O1.fr) xs):=by rw [List.getElem?_set_ne hne]; exact hw
 have o2:Okk F0 H0 (un F' h2) h1 H':=zlN_ (zdD_ o j.l) (fun p z=>⟨o.2.2.2.1 p fun y=>z (j.r.free y),by
  rcases j.dj p with y | y
  ·exact y
  ·exact absurd y z⟩) (j.r.trans o.2.2.1)
 have d2:Dj F' h2:=fun p=>by
  rcases o.2.1 p with z | z
  ·exact .inl z
  ·exact .inr (j.r.free z)
 obtain ⟨p',vs',e1',hp',hr',mm⟩:=zbL_ (hold.mono zbq_) hw' o2
 rw [e1] at e1'; cases e1'
 obtain ⟨h',a1,a2⟩:=mm (xs++[q.1]) (vs'++[v]) (hr'.append (.cons (O1.frz d2 res) .nil))
 exact ⟨p,vs',v,rfl,rfl,hp',by rw [← hr'.len]; omega,hk q F0 H0 σ _ h' _ D a1 a2 fin⟩
noncomputable def EvIr (K:PySem.W.Frag) (wi:TI) (E:XK) (L:List Sl) (r:Mo (List Int)):Prop :=
 ∀ σ F H (R:It→Hp→Prop),HoldF L σ F→Same F H→After K r E F H (fun xs F' H'=>∀ J,(∀ F1,Yl K J xs tyInt F1)→R J H')→wi σ H R
theorem eir_3 {r:Mo (Int×Int×Int)}(h:EvA K ta E L r (csCons tyInt (csCons tyInt (csLast tyInt)))):EvIr K (mRng3 ta) E L (r.bind fun c=>.grd (c.2.2 = -1 ∧ -(2 ^ 61)≤c.1∧c.1<2 ^ 61 ∧ -(2 ^ 61)≤c.2.1∧c.2.1<2 ^ 61) (.ok (rngD c.1 (c.1-c.2.1).toNat))):=by
 intro σ F H R hL hs q
 refine h σ F H _ hL hs (q.bind.imp fun l F1 H1 x1 k1 v hv=>?_)
 obtain ⟨u,us,rfl,rfl,u2,us2,rfl,rfl,w,rfl,rfl⟩:=hv
 obtain ⟨z,k1⟩:=k1.grd
 exact ⟨z.1,z.2,k1.ok x1.2.1 _ fun _=>zo6_⟩
theorem zpL_ {wi:TI}{g:TG}{tb:TS}{s0:S}{r:Mo (List Int)}{ss:Int→List (Nat×Sl)}{step:S→Int→Mo (Out ρ S S)}(hi:EvIr K wi E (LS s0) r) (hg:TgR K g tyInt ss)
  (hb:∀ s a,EvS K tb E (setL (LS s) (ss a)) (step s a) LS LS Or):EvS K (tFor wi g tb) E (LS s0) (r.bind fun xs=>forO step xs s0) LS LB Or:=by
 intro F0 H0 σ F h H D hL ok fin
 refine hi σ (un F h) H _ (hL.froz ok.2.1) ok.thaw (zby_ (G:=F) ok _ (.inl rfl) fin fun xs G1 H1 hr x1 J Y=>?_)
 rw [hr] at fin
 obtain ⟨o1,hs1,_⟩:=ok.back x1
 refine ⟨fun i m σ H=>m=xs.length-i∧i≤xs.length∧∃ s F h,Hold (LS s) σ F h∧Okk F0 H0 F h H∧Fin K (forO (B:=B) step (xs.drop i) s) E LS LB Or F0 H0 D,
  ⟨_,rfl,Nat.zero_le _,s0,_,h,hL.mono hs1,o1,fin⟩,?_⟩
 rintro i m σ H ⟨rfl,hi,s,F,h,hL,ok,fin⟩
 by_cases hlt:i<xs.length
 ·right
  obtain ⟨g1,g2⟩:=(Y F).go i H xs[i] ok.1.2.1 (List.getElem?_eq_getElem hlt)
  refine ⟨g1,fun σ' H'=>i+1≤xs.length∧∃ s F h,Hold (LS s) σ' F h∧Okk F0 H0 F h H'∧Fin K (forO (B:=B) step (xs.drop (i+1)) s) E LS LB Or F0 H0 D,fun σ' H' z=>⟨xs.length-(i+1),by omega,rfl,z⟩,fun v H2 hy=>?_⟩
  obtain ⟨F2,x2,hv⟩:=g2 v H2 hy F (Same.refl _) ok.1.2.1
  refine hg xs[i] v σ F2 H2 _ x2.2.1 hv fun vs hp=>?_
  refine hb s xs[i] F0 H0 _ F2 h H2 _ (zgD_ hp (hL.mono x2.1)) (ok.cold x2) ?_
  rw [List.drop_eq_getElem_cons hlt] at fin
  unfold forO at fin
  cases e:step s xs[i] with
  | no=>rw [e] at fin; exact fin
  | ex c=>rw [e] at fin; exact fin
  | ok o =>
   rw [e] at fin
   cases o with
   | nx s'=>exact fun σ' F' h' H' hL' ok'=>⟨hlt,s',F',h',hL',ok',fin⟩
   | ct s'=>exact fun σ' F' h' H' hL' ok'=>⟨hlt,s',F',h',hL',ok',fin⟩
   | bk s'=>exact fin
   | rt a=>exact fin
 ·left
  have e:i=xs.length:=by omega
  subst e
  rw [List.drop_length] at fin
  exact ⟨(Y F).stop H ok.1.2.1,fin σ F h H hL ok⟩
end
end L2
namespace L2
open PySem PySem.Spec PyProof.Rows
section
variable {K:PySem.W.Frag}{E:XK}{α κ:Type} [DecidableEq κ] {KY:KyT κ}{L:List Sl}{e1 e2 e3:TE}{T:Ty α}
theorem zm6_ {r1:Mo (List (κ×α))}{r2:Mo κ}{r3:Mo α}(h1:EvF K e1 E L r1 (tyD KY T)) (h2:EvF K e2 E L r2 KY.T) (h3:EvF K e3 E L r3 T):EvF K (mDGet2 e1 e2 e3) E L (r1.bind fun m=>r2.bind fun k=>r3.bind fun d=>.ok ((getA m k).getD d)) T:=by
 intro σ F H Q hL hs q
 refine h1 σ F H _ hL hs (q.bind.imp fun m F1 H1 x1 k1 v1 hv1=>?_)
 obtain ⟨p0,kvs0,rfl,hp0,hd0⟩:=id hv1
 refine ⟨⟨kvs0,x1.2.1 _ _ hp0⟩,?_⟩
 refine h2 σ F1 H1 _ (hL.mono x1.1) x1.2.1 (k1.bind.imp fun k F2 H2 x2 k2 v2 hv2=>?_)
 refine h3 σ F2 H2 _ ((hL.mono x1.1).mono x2.1) x2.2.1 (k2.bind.imp fun d F3 H3 x3 k3 v3 hv3=>?_)
 refine at_d ((tyD KY T).mono (x2.1.trans x3.1) hv1) (KY.T.mono x3.1 hv2) x3.2.1 fun p kvs hp hd=>?_
 rcases zo7_ hd k with ⟨z,z2⟩ | ⟨a',v,z1,z2,z3⟩
 ·rw [z] at k3; rw [z2]; exact k3.ok x3.2.1 _ hv3
 ·rw [z1] at k3; rw [z2]; exact k3.ok x3.2.1 _ z3
end
section
variable {K:PySem.W.Frag}{E:XK}{α β ρ ρ' B:Type}{L:List Sl}{te:TE}{Or:Own ρ}{Or':Own ρ'}{LB:B→List Sl}{C:Addr}{ns:List Str}{m:Str}{i w:Nat}
theorem zps_ {O:Own α}{P:Ps β}{g:β→Unit→Mo (ρ'×β)}{r0:Mo (List β×(List β→α))}{s0:Sl}(hi:i<L.length) (hw:L[w]?=some s0) (hne:i≠w) (hno:m∉ns) (hI:ImmO (owI C ns P)) (hp:EvPw K te E L i O (owLO (owI C ns P)) r0) :
  EvS K (tFor (iAny K te) (gName w) (tDrop (tMeth C m (CtM K (owI C ns P) (owI C ns P) csNil g Or') [] E0 (mVar w) tNil))) E L (r0.bind fun yp=>(mapX (fun z=>(g z ()).noex.bind fun q=>.ok q.2) yp.1).bind fun xs=>.ok (.nx (yp.2 xs))) (fun x'=>(L.set i (.ow O x')).set w .dead) LB Or:=by
 refine zpW_ hw hne hp fun uu v put xs k z=>?_
 have h1:∀ s1 s2:Sl,((L.set i s1).set w s2)[i]?=some s1:=fun s1 s2=>by rw [List.getElem?_set_ne (Ne.symm hne),List.getElem?_set_self (by exact hi)]
 have h2:∀ s1 s2:Sl,((L.set i s1).set w s2)[w]?=some s2:=fun s1 s2=>by rw [List.getElem?_set_self]; rw [List.length_set]; exact (List.getElem?_eq_some_iff.mp hw).1
 have e:((((g z ()).noex.bind fun q=>Mo.ok q.2).bind fun z'=>.ok (.nx z')):Mo (Out ρ β β))=(Mo.ok (z,fun z':β=>z')).bind fun yp=>(Mo.ok ()).bind fun c=>(g yp.1 c).noex.bind fun q=>.ok (.nx (yp.2 q.2)):=by
  cases e0:g z () with
  | ok q=>simp only [Mo.bind,Mo.noex,e0]
  | ex c=>simp only [Mo.bind,Mo.noex,e0]
  | no=>simp only [Mo.bind,Mo.noex,e0]
 rw [e]
 refine zeB_ (zlR_ (k:=fun x=>.ok (.nx x)) (P:=P) hno hI (zh8_ (h1 _ _) (h2 _ _)) zmU_ zqw_ fun x'=>?_)
 intro F0 H0 σ F h H D hL ok fin
 have:=fin σ F h H
 refine fin σ F h H ?_ ok
 rw [List.set_comm _ _ (Ne.symm hne),List.set_set] at hL
 obtain ⟨o,k,hr,e1,j,_,f⟩:=hL.at w (h2 _ _)
 have:=f .dead o k h j trivial
 rw [zb2_ e1,List.set_set] at this
 exact this
end
end L2
namespace L2
open PySem PySem.Spec PyProof.Rows
section
variable {K:PySem.W.Frag}{E:XK}{α β γ δ ρ ρ' S B:Type}{F0 H0 F h H:Hp}{L:List Sl}{e te te2 tc:TE}{ta:TA}{T:Ty α}{r:Mo α}{Or:Own ρ}{Or':Own ρ'}{t u:TS}{LS:S→List Sl}{LB:B→List Sl}{σ:St}{C:Addr}{ns:List Str}{f m:Str}{i n w j:Nat}
theorem zkA_ {O:Own β}{r0:Mo (List α×(List α→β))}{k:β→Mo (Out ρ B S)}(hp:EvPt K te E L i O (owL T) r0) (hk:∀ x',EvS K u E (L.set i (.ow O x')) (k x') LS LB Or) :
  EvS K (tSeq (tDrop (tBM0 K "list" rClear te)) u) E L (r0.bind fun yp=>(Mo.ok (yp.2 [])).bind k) LS LB Or:=by
 intro F0 H0 σ F h H D hL ok fin
 show te σ H fun x H1=>tyV K "list" x H1∧rClear x [] H1 (fun _ H3=>u D σ H3)
 refine hp F0 H0 σ F h H _ hL ok (zby_ (G:=F) ok _ (.inl rfl) fin fun yp G1 H1 hr0 x1 u0 fc=>?_)
 obtain ⟨o1,hs1,_⟩:=ok.back x1
 rw [hr0] at fin
 obtain ⟨k0,⟨p,vs,rfl,rfl,_⟩,kh,g⟩:=fc _ H1 (Same.refl _) o1
 have hp0:h p=some (.lst vs):=kh _ _ zbk_
 obtain ⟨h',a1,a2⟩:=g [] (one p (.lst [])) _ (upd H1 p (.lst [])) (PutC.one o1 kh) ⟨p,_,rfl,rfl,.nil⟩
 exact ⟨.inl ⟨rfl,vs,.of (o1.2.2.1 _ _ hp0)⟩,p,vs,rfl,rfl,o1.2.2.1 _ _ hp0,hk _ F0 H0 σ _ h' _ D a1 a2 fin⟩
theorem zh6_ {Q:Cs γ}{r0:Mo γ}{g:γ→Mo α}{O:Own α}(hno:m∉ns) (he:EvF K te E L r0 (tyI C ns Q)) :
  EvO K (tMeth C m (Ct K (csLast (tyI C ns Q)) g O) [] E0 te tNil) E L (r0.bind fun x=>(g x).noex) O:=by
 intro σ F H R hL hs q
 refine he σ F H _ hL hs (q.bind.imp fun x F1 H1 x1 k1 v hv=>?_)
 obtain ⟨p,dx,vs,rfl,hp,hl,hc⟩:=id hv
 refine ⟨p,dx,_,rfl,x1.2.1 _ _ hp,zbm_ hno,?_⟩
 exact ⟨F1,x,x1.2.1,⟨_,rfl,hv⟩,k1.noex.imp fun a F3 H3 x3 k3 w h fresh d s o=>k3 w h (fun p z=>x1.2.2.1.free (fresh p z)) d s o⟩
theorem zjw_ {s:Sl}{o:Option V}(hl:L.length=σ.length) (h:HoldF L σ F) (hs:s.Z o F):HoldF (L++[s]) (σ++[o]) F:=by
 intro j t e
 by_cases hj:j<L.length
 ·rw [List.getElem?_append_left hj] at e
  rw [List.getElem?_append_left (by omega)]
  exact h j t e
 ·rw [List.getElem?_append_right (by omega)] at e
  rw [List.getElem?_append_right (by omega)]
  have hj0:j-L.length=0:=by
   by_cases z:j-L.length=0
   ·exact z
   ·rw [List.getElem?_eq_none (by simp; omega)] at e; cases e
  rw [hj0] at e
  cases e
  rw [← hl,hj0]
  exact hs
theorem zqp_ {O:Own α}{T:Ty ρ}{r:Mo (ρ'×α)}{k:ρ'×α→Mo ρ}(hT:Imm T) (hm:EvM K tc E L i O Or' r) (hk:∀ q,EvF K te2 E ((L.set i (.ow O q.2))++[.fz Or'.fr q.1]) (k q) T)
  (hte:∀ (σ:St),σ.length=L.length→∀ (H:Hp) (Q:VK),(tc σ H fun v H1=>te2 (σ++[some v]) H1 Q)→te σ H Q):EvS K (tRet te) E L (r.bind fun q=>(k q).bind fun a=>.ok (.rt a)) LS LB (owF T):=by
 intro F0 H0 σ F h H D hL ok fin
 show te σ H D.rt
 refine hte σ hL.len.symm H D.rt (hm F0 H0 σ F h H _ hL ok (ze9_ fin fun q F' h' H' hr o v h1 h2 j hold res=>?_))
 rw [hr] at fin
 have o2:Okk F0 H0 (un F' h2) h1 H':=zlN_ (zdD_ o j.l) (fun p z=>⟨o.2.2.2.1 p fun y=>z (j.r.free y),by
  rcases j.dj p with y | y
  ·exact y
  ·exact absurd y z⟩) (j.r.trans o.2.2.1)
 have d2:Dj F' h2:=fun p=>by
  rcases o.2.1 p with z | z
  ·exact .inl z
  ·exact .inr (j.r.free z)
 have fin:Fin K ((k q).bind fun a=>.ok (.rt a)) E LS LB (owF T) F0 H0 D:=fin
 have hv:Or'.fr.R q.1 v (un (un F' h2) h1):=Or'.fr.mono zbq_ (Or'.frz d2 res)
 refine hk q _ (un (un F' h2) h1) H' _ (zjw_ (by rw [hold.len]) ((hold.mono zbq_).froz o2.2.1) ⟨v,rfl,hv⟩) o2.thaw (zby_ (G:=F') o2 _ (.inl rfl) fin fun a G2 H2 hra x2 w hw=>?_)
 obtain ⟨o3,_,ht⟩:=o2.back x2
 rw [hra] at fin
 exact fin w _ (fun _=>none) H2 ⟨o3.1,fun p=>.inr rfl,(fun p o z=>by cases z),fun p z=>absurd rfl z,fun p xs z=>by cases z⟩ ⟨fun _=>rfl,hT ht hw⟩
end
theorem atF {K:PySem.W.Frag}{E:XK}{α:Type}{e:TE}{r:Mo α}{T:Ty α}(L:List Sl) (h:EvF K e E L r T):EvF K e E L r T:=h
end L2
namespace K33
open PySem PySem.Spec PyProof.Rows L2
noncomputable abbrev Qn0:List Str:=["breaks", "sums", "board", "levels", "before", "run_over"]
noncomputable abbrev Qn1:List Str:=["_law_script", "_law_kinds_here", "_law_many", "_law_most", "_law_sums", "_law_board_here", "_law_handed", "_law_counter", "_law_totals", "_law_told", "_law_due", "_law_k", "_law_cell", "_law_card_here", "_law_line", "_law_total"]
noncomputable abbrev Qn2:List Str:=["_law_cell", "_law_k", "_law_kinds_here", "_law_signs", "_law_numbers", "_law_text", "_law_at", "_law_step", "_law_low", "_law_two", "_law_some", "_law_mark"]
noncomputable abbrev Qn3:List Str:=["_law_card_here", "_law_board_here", "_law_signs", "_law_here", "_law_there", "_law_text", "_law_column"]
noncomputable abbrev Qn4:List Str:=["self"]
noncomputable abbrev Qn5:List Str:=["self", "breaks", "sums", "figures", "board"]
noncomputable abbrev Qn6:List Str:=["figures", "power", "kept", "over"]
noncomputable abbrev Qn7:List Str:=["card", "field"]
noncomputable abbrev Qn8:List Str:=["_law_cell", "_law_many", "_law_found", "_law_number_here", "_law_k"]
noncomputable abbrev Qn9:List Str:=["_law_card_here", "_law_field_here", "_law_total", "_law_sign"]
noncomputable abbrev Qn10:List Str:=["_law_cell", "_law_many"]
noncomputable abbrev Qn11:List Str:=["_law_number_here", "_law_figures", "_law_found", "_law_k"]
noncomputable abbrev Qn12:List Str:=["_law_cell", "_law_wires", "_law_numbers", "_law_there"]
noncomputable abbrev Qn13:List Str:=["self", "level", "numbers", "place", "number", "wheel"]
noncomputable abbrev Qn14:List Str:=["_law_script", "_law_k"]
noncomputable abbrev Qn15:List Str:=["_law_cell", "_law_k", "_law_kinds_here"]
noncomputable abbrev Qn16:List Str:=["self", "level"]
noncomputable abbrev Qn17:List Str:=["_law_number_here", "_law_most", "_law_first"]
noncomputable abbrev Qn18:List Str:=["_law_number_here", "_law_most"]
noncomputable abbrev Qn19:List Str:=["self", "level", "numbers"]
noncomputable abbrev Qn20:List Str:=["_law_card_here", "_law_board_here"]
noncomputable abbrev Qn21:List Str:=["_law_card_here", "_law_field_here"]
noncomputable abbrev Qn22:List Str:=["_law_cell"]
noncomputable abbrev Qn23:List Str:=["_law_number_here", "_law_figures"]
noncomputable abbrev Qn24:List Str:=["self", "figures"]
noncomputable abbrev Qn25:List Str:=["self", "card", "lines", "mark", "laid"]
noncomputable abbrev Qn26:List Str:=["card", "column"]
noncomputable abbrev Qn27:List Str:=["self", "outermost", "lines", "level"]
noncomputable abbrev Qn28:List Str:=["_law_found", "_law_due", "_law_line"]
noncomputable abbrev Qn29:List Str:=["self", "card"]
noncomputable abbrev Qn30:List Str:=["self", "outermost"]
noncomputable abbrev Qq0 (K:PySem.W.Frag):=(owI (gA K "Counter") Qn0 (psO (owL (tyTup (csCons tyInt (csLast tyInt)))) (psO (owL (tyTup (csCons tyInt (csLast tyInt)))) (psO (owL (tyTup (csCons tyInt (csLast tyInt)))) (psO (owLO (owLO (owI (gA K "Wheel") Qn6 (psO (owF tyInt) (psO (owF tyInt) (psO (owF tyInt) (psO (owF tyBl) psNil))))))) (psO (owF (tyOpt tyStr)) (psO (owD kInt tyBl) psNil)))))))
noncomputable abbrev Qq1:=((List (Int×Int))×((List (Int×Int))×((List (Int×Int))×((List (List (Int×(Int×(Int×(Bool×Unit))))))×((Option (List Nat))×((List (Int×Bool))×Unit))))))
noncomputable abbrev Qq2:=(tyTup (csCons tyInt (csLast tyInt)))
noncomputable abbrev Qq3 (K:PySem.W.Frag):=(tyI (gA K "Counter") Qn0 (csCons (tyL Qq2) (csCons (tyL Qq2) (csCons (tyL Qq2) (csCons (tyL (tyL (tyI (gA K "Wheel") Qn6 (csCons tyInt (csCons tyInt (csCons tyInt (csCons tyBl csNil))))))) (csCons (tyOpt tyStr) (csCons (tyD kInt tyBl) csNil)))))))
noncomputable abbrev Qq4 (K:PySem.W.Frag):=(owI (gA K "Wheel") Qn6 (psO (owF tyInt) (psO (owF tyInt) (psO (owF tyInt) (psO (owF tyBl) psNil)))))
noncomputable abbrev Qq5 (K:PySem.W.Frag):=(tyI (gA K "Wheel") Qn6 (csCons tyInt (csCons tyInt (csCons tyInt (csCons tyBl csNil)))))
noncomputable abbrev Qq6:=(Int×(Int×(Int×(Bool×Unit))))
noncomputable abbrev Qq7 (K:PySem.W.Frag):=(psO (owL Qq2) (psO (owL Qq2) (psO (owL Qq2) (psO (owLO (owLO (Qq4 K))) (psO (owF (tyOpt tyStr)) (psO (owD kInt tyBl) psNil))))))
noncomputable def zge_ (p_power:Int):Mo (Out Int Unit Unit) :=
 (Mo.bind (Mo.ok (1:Int)) fun value_1=>(thenO (S:=Int) (Mo.bind (Mo.bind (Mo.ok p_power) fun c_3=>Mo.grd (-(2 ^ 62)≤c_3∧c_3<2 ^ 62) (Mo.ok (rngI 0 c_3.toNat))) fun xs_8=>forO (fun (s_2:Int) x_4=>(Mo.bind (Mo.bind (Mo.ok s_2) fun a_6=>Mo.bind (Mo.ok (10:Int)) fun b_7=>Mo.grd (IntMulOk a_6 b_7) (Mo.ok (a_6*b_7))) fun value_5=>(Mo.ok (.nx value_5)))) xs_8 value_1) fun s_2=>(Mo.bind (Mo.ok s_2) fun r_9=>Mo.ok (.rt r_9))))
noncomputable def zgi_ (p_power:Int):Mo Int:=fnO (zge_ p_power)
noncomputable def zbs_ (p_self:Unit) (p_figures:Int):Mo (Out (Unit×Qq6) Unit Qq6) :=
 (Mo.bind (Mo.ok p_figures) fun a_1=>Mo.bind (Mo.ok (a_1,())) fun x_2=>(Mo.bind (Mo.bind (Mo.ok p_figures) fun c_9=>Mo.noex (zgi_ c_9)) fun a_3=>Mo.bind (Mo.ok (x_2.1,(a_3,()))) fun x_4=>(Mo.bind (Mo.ok (0:Int)) fun a_5=>Mo.bind (Mo.ok (x_4.1,(x_4.2.1,(a_5,())))) fun x_6=>(Mo.bind (Mo.ok false) fun a_7=>Mo.bind (Mo.ok (x_6.1,(x_6.2.1,(x_6.2.2.1,(a_7,()))))) fun x_8=>(Mo.ok (.nx x_8))))))
noncomputable def z4_ (p_self:Unit) (p_figures:Int):Mo (Unit×Qq6):=fnMU (zbs_ p_self p_figures)
noncomputable def za8_ (p_self:Unit) (p_breaks:(List (Int×Int))) (p_sums:(List (Int×Int))) (p_figures:Int) (p_board:(List (Int×Int))):Mo (Out (Unit×Qq1) Unit Qq1) :=
 (Mo.bind (Mo.bind (Mo.ok p_breaks) fun c_25=>Mo.ok c_25) fun a_1=>Mo.bind (Mo.ok (a_1,())) fun x_2=>(Mo.bind (Mo.bind (Mo.ok p_sums) fun c_24=>Mo.ok c_24) fun a_3=>Mo.bind (Mo.ok (x_2.1,(a_3,()))) fun x_4=>(Mo.bind (Mo.bind (Mo.ok p_board) fun c_23=>Mo.ok c_23) fun a_5=>Mo.bind (Mo.ok (x_4.1,(x_4.2.1,(a_5,())))) fun x_6=>(Mo.bind (Mo.bind (Mo.bind (Mo.bind (Mo.bind (Mo.ok p_breaks) fun c_13=>Mo.ok (c_13.length:Int)) fun a_14=>Mo.bind (Mo.ok (1:Int)) fun b_15=>Mo.ok (a_14+b_15)) fun c_16=>Mo.grd (-(2 ^ 62)≤c_16∧c_16<2 ^ 62) (Mo.ok (rngI 0 c_16.toNat))) fun xs_22=>compM (fun x_17=>cond1 (Mo.ok true) (Mo.bind (Mo.ok p_sums) fun xs_21=>compM (fun x_18=>cond1 (Mo.ok true) (Mo.bind (Mo.ok p_figures) fun c_19=>Mo.bind (Mo.noex (z4_ () c_19)) fun q_20=>Mo.ok q_20.2)) xs_21 [])) xs_22 []) fun a_7=>Mo.bind (Mo.ok (x_6.1,(x_6.2.1,(x_6.2.2.1,(a_7,()))))) fun x_8=>(Mo.bind (Mo.ok (none:(Option (List Nat)))) fun a_9=>Mo.bind (Mo.ok (x_8.1,(x_8.2.1,(x_8.2.2.1,(x_8.2.2.2.1,(a_9,())))))) fun x_10=>(Mo.bind (Mo.ok ([]:(List (Int×Bool)))) fun a_11=>Mo.bind (Mo.ok (x_10.1,(x_10.2.1,(x_10.2.2.1,(x_10.2.2.2.1,(x_10.2.2.2.2.1,(a_11,()))))))) fun x_12=>(Mo.ok (.nx x_12))))))))
noncomputable def za1_ (p_self:Unit) (p_breaks:(List (Int×Int))) (p_sums:(List (Int×Int))) (p_figures:Int) (p_board:(List (Int×Int))):Mo (Unit×Qq1):=fnMU (za8_ p_self p_breaks p_sums p_figures p_board)
noncomputable def zcw_ (p_cell:Int) (p_many:Int):Mo (Out (List Int) Unit Unit) :=
 (Mo.bind (Mo.ok ([]:List Int)) fun found_1=>(Mo.bind (Mo.bind (Mo.bind (Mo.ok p_cell) fun a_3=>Mo.bind (Mo.ok (2147483647:Int)) fun b_4=>Mo.grd (0<b_4) (Mo.ok (a_3 % b_4))) fun a_5=>Mo.bind (Mo.ok (48271:Int)) fun b_6=>Mo.ok (a_5+b_6)) fun number_here_2=>(thenO (S:=(Int×(List Int))) (Mo.bind (Mo.bind (Mo.ok p_many) fun c_8=>Mo.grd (-(2 ^ 62)≤c_8∧c_8<2 ^ 62) (Mo.ok (rngI 0 c_8.toNat))) fun xs_22=>forO (fun (s_7:(Int×(List Int))) x_9=>(Mo.bind (Mo.bind (Mo.bind (Mo.bind (Mo.bind (Mo.ok s_7.1) fun a_11=>Mo.bind (Mo.ok s_7.1) fun b_12=>Mo.grd (IntMulOk a_11 b_12) (Mo.ok (a_11*b_12))) fun a_15=>Mo.bind (Mo.bind (Mo.ok (48271:Int)) fun a_13=>Mo.bind (Mo.ok s_7.1) fun b_14=>Mo.grd (IntMulOk a_13 b_14) (Mo.ok (a_13*b_14))) fun b_16=>Mo.ok (a_15+b_16)) fun a_17=>Mo.bind (Mo.ok x_9) fun b_18=>Mo.ok (a_17+b_18)) fun a_19=>Mo.bind (Mo.ok (2147483647:Int)) fun b_20=>Mo.grd (0<b_20) (Mo.ok (a_19 % b_20))) fun number_here_10=>(Mo.bind (Mo.ok number_here_10) fun a_21=>Mo.lim (s_7.2.length+1) (Mo.ok (.nx (number_here_10,(s_7.2++[a_21]))))))) xs_22 (number_here_2,found_1)) fun s_7=>(Mo.ok (.rt s_7.2)))))
noncomputable def zbj_ (p_cell:Int) (p_many:Int):Mo (List Int):=fnO (zcw_ p_cell p_many)
noncomputable def zds_ (p_cell:Int):Mo (Out (List Int) Unit Unit) :=
 (Mo.bind (Mo.bind (Mo.bind (Mo.bind (Mo.ok p_cell) fun a_1=>Mo.bind (Mo.ok (36:Int)) fun c_2=>Mo.ok (a_1,c_2)) fun c_3=>Mo.noex (zbj_ c_3.1 c_3.2)) fun xs_7=>compM (fun x_4=>cond1 (Mo.ok true) (Mo.bind (Mo.ok x_4) fun a_5=>Mo.bind (Mo.ok (11:Int)) fun b_6=>Mo.grd (CDivG a_5 b_6) (Mo.ok (a_5 / b_6)))) xs_7 []) fun r_8=>Mo.ok (.rt r_8))
noncomputable def zdt_ (p_cell:Int):Mo (List Int):=fnO (zds_ p_cell)
noncomputable def zdp_ (p_cell:Int):Mo (Out (List (Int×Int)) Unit Unit) :=
 (Mo.bind (Mo.ok ([]:List (Int×Int))) fun wires_1=>(Mo.bind (Mo.bind (Mo.bind (Mo.ok p_cell) fun a_3=>Mo.bind (Mo.ok (36:Int)) fun c_4=>Mo.ok (a_3,c_4)) fun c_5=>Mo.noex (zbj_ c_5.1 c_5.2)) fun numbers_2=>(thenO (S:=(List (Int×Int))) (Mo.bind (Mo.bind (Mo.bind (Mo.ok (1:Int)) fun a_7=>Mo.bind (Mo.ok (37:Int)) fun c_8=>Mo.ok (a_7,c_8)) fun c_9=>Mo.grd (-(2 ^ 62)≤c_9.1∧c_9.1<2 ^ 62 ∧ -(2 ^ 62)≤c_9.2∧c_9.2<2 ^ 62) (Mo.ok (rngI c_9.1 (c_9.2-c_9.1).toNat))) fun xs_38=>forO (fun (s_6:(List (Int×Int))) x_10=>(thenO (S:=(List (Int×Int))) (Mo.bind (Mo.bind (Mo.bind (Mo.bind (Mo.bind (Mo.ok numbers_2) fun a_13=>Mo.bind (Mo.bind (Mo.ok x_10) fun a_11=>Mo.bind (Mo.ok (1:Int)) fun b_12=>Mo.ok (a_11-b_12)) fun b_14=>Mo.opt (atI a_13 b_14)) fun a_15=>Mo.bind (Mo.ok (3:Int)) fun b_16=>Mo.grd (CDivG a_15 b_16) (Mo.ok (a_15 / b_16))) fun a_17=>Mo.bind (Mo.ok (4:Int)) fun b_18=>Mo.grd (0<b_18) (Mo.ok (a_17 % b_18))) fun a_21=>Mo.bind (Mo.bind (Mo.ok p_cell) fun a_19=>Mo.bind (Mo.ok (5:Int)) fun b_20=>Mo.grd (0<b_20) (Mo.ok (a_19 % b_20))) fun b_22=>Mo.ok (decide (a_21<b_22))) fun c_23=>if c_23 then (Mo.bind (Mo.bind (Mo.bind (Mo.ok (1:Int)) fun a_33=>Mo.bind (Mo.bind (Mo.bind (Mo.bind (Mo.ok numbers_2) fun a_27=>Mo.bind (Mo.bind (Mo.ok x_10) fun a_25=>Mo.bind (Mo.ok (1:Int)) fun b_26=>Mo.ok (a_25-b_26)) fun b_28=>Mo.opt (atI a_27 b_28)) fun a_29=>Mo.bind (Mo.ok (12:Int)) fun b_30=>Mo.grd (CDivG a_29 b_30) (Mo.ok (a_29 / b_30))) fun a_31=>Mo.bind (Mo.ok (40:Int)) fun b_32=>Mo.grd (0<b_32) (Mo.ok (a_31 % b_32))) fun b_34=>Mo.ok (a_33+b_34)) fun a_35=>Mo.bind (Mo.ok x_10) fun c_36=>Mo.ok (a_35,c_36)) fun a_37=>Mo.lim (s_6.length+1) (Mo.ok (.nx (s_6++[a_37])))) else (Mo.ok (.nx s_6))) fun s_24=>(Mo.ok (.nx s_24)))) xs_38 wires_1) fun s_6=>(Mo.ok (.rt s_6)))))
noncomputable def zdq_ (p_cell:Int):Mo (List (Int×Int)):=fnO (zdp_ p_cell)
noncomputable def zbF_ (p_self:Qq1):Mo (Out (List Int) Unit Unit) :=
 (Mo.bind (Mo.bind (Mo.bind (Mo.ok p_self) fun a_1=>Mo.ok a_1.2.2.2.2.2.1) fun c_2=>Mo.grd (c_2.length<64) (Mo.ok (srtL ltI (c_2.map (·.1))))) fun r_3=>Mo.ok (.rt r_3))
noncomputable def zbg_ (p_self:Qq1):Mo (List Int):=fnO (zbF_ p_self)
noncomputable def zb7_ (p_script:(List Int)) (p_k:Int):Mo (Out Int Unit Unit) :=
 (thenO (S:=Unit) (Mo.bind (Mo.bind (Mo.ok p_k) fun a_2=>Mo.bind (Mo.bind (Mo.ok p_script) fun c_1=>Mo.ok (c_1.length:Int)) fun b_3=>Mo.ok (decide (a_2<b_3))) fun c_4=>if c_4 then (Mo.bind (Mo.bind (Mo.ok p_script) fun a_6=>Mo.bind (Mo.ok p_k) fun b_7=>Mo.opt (atI a_6 b_7)) fun r_8=>Mo.ok (.rt r_8)) else (Mo.ok (.nx ()))) fun _=>(Mo.bind (Mo.ok (0:Int)) fun r_9=>Mo.ok (.rt r_9)))
noncomputable def zaz_ (p_script:(List Int)) (p_k:Int):Mo Int:=fnO (zb7_ p_script p_k)
noncomputable def zdo_ (p_number_here:Int) (p_most:Int):Mo (Out (Int×Int) Unit Unit) :=
 (Mo.bind (Mo.bind (Mo.ok (1:Int)) fun a_6=>Mo.bind (Mo.bind (Mo.bind (Mo.ok p_number_here) fun a_2=>Mo.bind (Mo.ok (5:Int)) fun b_3=>Mo.grd (CDivG a_2 b_3) (Mo.ok (a_2 / b_3))) fun a_4=>Mo.bind (Mo.ok (36:Int)) fun b_5=>Mo.grd (0<b_5) (Mo.ok (a_4 % b_5))) fun b_7=>Mo.ok (a_6+b_7)) fun first_1=>(Mo.bind (Mo.bind (Mo.ok first_1) fun a_17=>Mo.bind (Mo.bind (Mo.bind (Mo.ok (36:Int)) fun a_14=>Mo.bind (Mo.bind (Mo.ok first_1) fun a_12=>Mo.bind (Mo.bind (Mo.bind (Mo.ok p_number_here) fun a_8=>Mo.bind (Mo.ok (180:Int)) fun b_9=>Mo.grd (CDivG a_8 b_9) (Mo.ok (a_8 / b_9))) fun a_10=>Mo.bind (Mo.ok p_most) fun b_11=>Mo.grd (0<b_11) (Mo.ok (a_10 % b_11))) fun b_13=>Mo.ok (a_12+b_13)) fun c_15=>Mo.ok (a_14,c_15)) fun c_16=>Mo.ok (min c_16.1 c_16.2)) fun c_18=>Mo.ok (a_17,c_18)) fun r_19=>Mo.ok (.rt r_19)))
noncomputable def zbl_ (p_number_here:Int) (p_most:Int):Mo (Int×Int):=fnO (zdo_ p_number_here p_most)
noncomputable def zdS_ (p_cell:Int) (p_k:Int) (p_kinds_here:(List Int)):Mo (Out (List Nat) Unit Unit) :=
 (Mo.bind (Mo.ok (SG:List Nat)) fun signs_1=>(Mo.bind (Mo.bind (Mo.bind (Mo.ok p_cell) fun a_3=>Mo.bind (Mo.ok (36:Int)) fun c_4=>Mo.ok (a_3,c_4)) fun c_5=>Mo.noex (zbj_ c_5.1 c_5.2)) fun numbers_2=>(Mo.bind (Mo.ok ([]:List Nat)) fun text_6=>(thenO (S:=(List Nat)) (Mo.bind (Mo.bind (Mo.ok (36:Int)) fun c_8=>Mo.grd (-(2 ^ 62)≤c_8∧c_8<2 ^ 62) (Mo.ok (rngI 0 c_8.toNat))) fun xs_62=>forO (fun (s_7:(List Nat)) x_9=>(Mo.bind (Mo.bind (Mo.bind (Mo.ok numbers_2) fun a_11=>Mo.bind (Mo.ok x_9) fun b_12=>Mo.opt (atI a_11 b_12)) fun a_13=>Mo.bind (Mo.ok (7:Int)) fun b_14=>Mo.grd (CDivG a_13 b_14) (Mo.ok (a_13 / b_14))) fun step_10=>(Mo.bind (Mo.bind (Mo.bind (Mo.ok p_kinds_here) fun a_16=>Mo.bind (Mo.ok x_9) fun b_17=>Mo.opt (atI a_16 b_17)) fun a_18=>Mo.bind (Mo.ok (5:Int)) fun b_19=>Mo.grd (CDivG a_18 b_19) (Mo.ok (a_18 / b_19))) fun low_15=>(Mo.bind (Mo.bind (Mo.ok low_15) fun a_23=>Mo.bind (Mo.bind (Mo.ok step_10) fun a_21=>Mo.bind (Mo.ok (2:Int)) fun b_22=>Mo.grd (0<b_22) (Mo.ok (a_21 % b_22))) fun b_24=>Mo.ok (a_23+b_24)) fun two_20=>(Mo.bind (Mo.bind (Mo.bind (Mo.bind (Mo.ok (1:Int)) fun a_28=>Mo.bind (Mo.bind (Mo.ok low_15) fun a_26=>Mo.bind (Mo.ok (10:Int)) fun b_27=>Mo.grd (0<b_27) (Mo.ok (a_26 % b_27))) fun b_29=>Mo.ok (a_28+b_29)) fun a_48=>Mo.bind (Mo.bind (Mo.bind (Mo.ok (1:Int)) fun a_32=>Mo.bind (Mo.bind (Mo.ok step_10) fun a_30=>Mo.bind (Mo.ok (10:Int)) fun b_31=>Mo.grd (0<b_31) (Mo.ok (a_30 % b_31))) fun b_33=>Mo.ok (a_32+b_33)) fun a_46=>Mo.bind (Mo.bind (Mo.bind (Mo.ok two_20) fun a_34=>Mo.bind (Mo.ok (37:Int)) fun b_35=>Mo.grd (0<b_35) (Mo.ok (a_34 % b_35))) fun a_44=>Mo.bind (Mo.bind (Mo.bind (Mo.ok step_10) fun a_36=>Mo.bind (Mo.ok (37:Int)) fun b_37=>Mo.grd (0<b_37) (Mo.ok (a_36 % b_37))) fun a_42=>Mo.bind (Mo.bind (Mo.ok (1:Int)) fun a_40=>Mo.bind (Mo.bind (Mo.ok two_20) fun a_38=>Mo.bind (Mo.ok (10:Int)) fun b_39=>Mo.grd (0<b_39) (Mo.ok (a_38 % b_39))) fun b_41=>Mo.ok (a_40+b_41)) fun c_43=>Mo.ok (a_42,c_43)) fun c_45=>Mo.ok (a_44,c_45)) fun c_47=>Mo.ok (a_46,c_47)) fun c_49=>Mo.ok (a_48,c_49)) fun c_50=>Mo.ok [c_50.1,c_50.2.1,c_50.2.2.1,c_50.2.2.2.1,c_50.2.2.2.2]) fun some_25=>(Mo.bind (Mo.bind (Mo.ok s_7) fun a_60=>Mo.bind (Mo.bind (Mo.ok signs_1) fun a_58=>Mo.bind (Mo.bind (Mo.ok some_25) fun a_56=>Mo.bind (Mo.bind (Mo.bind (Mo.ok p_kinds_here) fun a_52=>Mo.bind (Mo.ok x_9) fun b_53=>Mo.opt (atI a_52 b_53)) fun a_54=>Mo.bind (Mo.ok (5:Int)) fun b_55=>Mo.grd (0<b_55) (Mo.ok (a_54 % b_55))) fun b_57=>Mo.opt (atI a_56 b_57)) fun b_59=>Mo.lim a_58.length (Mo.opt ((atI a_58 b_59).map fun c=>[c]))) fun b_61=>Mo.lim (a_60.length+b_61.length) (Mo.ok (a_60++b_61))) fun text_51=>(Mo.ok (.nx text_51)))))))) xs_62 text_6) fun s_7=>(Mo.bind (Mo.bind (Mo.bind (Mo.bind (Mo.ok signs_1) fun a_66=>Mo.bind (Mo.bind (Mo.ok p_cell) fun a_64=>Mo.bind (Mo.ok (37:Int)) fun b_65=>Mo.grd (0<b_65) (Mo.ok (a_64 % b_65))) fun b_67=>Mo.lim a_66.length (Mo.opt ((atI a_66 b_67).map fun c=>[c]))) fun a_72=>Mo.bind (Mo.bind (Mo.ok signs_1) fun a_70=>Mo.bind (Mo.bind (Mo.ok p_k) fun a_68=>Mo.bind (Mo.ok (37:Int)) fun b_69=>Mo.grd (0<b_69) (Mo.ok (a_68 % b_69))) fun b_71=>Mo.lim a_70.length (Mo.opt ((atI a_70 b_71).map fun c=>[c]))) fun b_73=>Mo.lim (a_72.length+b_73.length) (Mo.ok (a_72++b_73))) fun a_80=>Mo.bind (Mo.bind (Mo.ok signs_1) fun a_78=>Mo.bind (Mo.bind (Mo.bind (Mo.ok numbers_2) fun a_74=>Mo.bind (Mo.ok (0:Int)) fun b_75=>Mo.opt (atI a_74 b_75)) fun a_76=>Mo.bind (Mo.ok (37:Int)) fun b_77=>Mo.grd (0<b_77) (Mo.ok (a_76 % b_77))) fun b_79=>Mo.lim a_78.length (Mo.opt ((atI a_78 b_79).map fun c=>[c]))) fun b_81=>Mo.lim (a_80.length+b_81.length) (Mo.ok (a_80++b_81))) fun mark_63=>(Mo.bind (Mo.bind (Mo.bind (Mo.ok s_7) fun a_82=>Mo.bind (Mo.ok mark_63) fun b_83=>Mo.lim (a_82.length+b_83.length) (Mo.ok (a_82++b_83))) fun a_90=>Mo.bind (Mo.bind (Mo.ok signs_1) fun a_88=>Mo.bind (Mo.bind (Mo.bind (Mo.ok p_cell) fun a_84=>Mo.bind (Mo.ok (37:Int)) fun b_85=>Mo.grd (CDivG a_84 b_85) (Mo.ok (a_84 / b_85))) fun a_86=>Mo.bind (Mo.ok (37:Int)) fun b_87=>Mo.grd (0<b_87) (Mo.ok (a_86 % b_87))) fun b_89=>Mo.lim a_88.length (Mo.opt ((atI a_88 b_89).map fun c=>[c]))) fun b_91=>Mo.lim (a_90.length+b_91.length) (Mo.ok (a_90++b_91))) fun r_92=>Mo.ok (.rt r_92)))))))
noncomputable def zdV_ (p_cell:Int) (p_k:Int) (p_kinds_here:(List Int)):Mo (List Nat):=fnO (zdS_ p_cell p_k p_kinds_here)
noncomputable def zcy_ (p_self:Qq6) (p_value:Int):Mo (Out (Unit×Qq6) Unit Qq6) :=
 (Mo.bind (Mo.bind (Mo.bind (Mo.ok p_self) fun a_2=>Mo.ok a_2.2.2.1) fun a_3=>Mo.bind (Mo.ok p_value) fun b_4=>Mo.ok (a_3+b_4)) fun risen_1=>(thenO (S:=Qq6) (Mo.bind (Mo.bind (Mo.ok risen_1) fun a_6=>Mo.bind (Mo.bind (Mo.ok p_self) fun a_5=>Mo.ok a_5.2.1) fun b_7=>Mo.ok (decide (b_7≤a_6))) fun c_8=>if c_8 then (Mo.bind (Mo.ok true) fun a_10=>Mo.bind (Mo.ok (p_self,fun (z:Qq6)=>z)) fun y_12=>Mo.bind (Mo.ok (y_12.2 (y_12.1.1,(y_12.1.2.1,(y_12.1.2.2.1,(a_10,y_12.1.2.2.2.2)))))) fun x_11=>(Mo.ok (.nx x_11))) else (Mo.ok (.nx p_self))) fun s_9=>(Mo.bind (Mo.bind (Mo.ok risen_1) fun a_17=>Mo.bind (Mo.bind (Mo.ok s_9) fun a_16=>Mo.ok a_16.2.1) fun b_18=>Mo.grd (0<b_18) (Mo.ok (a_17 % b_18))) fun a_13=>Mo.bind (Mo.ok (s_9,fun (z:Qq6)=>z)) fun y_15=>Mo.bind (Mo.ok (y_15.2 (y_15.1.1,(y_15.1.2.1,(a_13,y_15.1.2.2.2))))) fun x_14=>(Mo.ok (.nx x_14)))))
noncomputable def zcL_ (p_self:Qq6) (p_value:Int):Mo (Unit×Qq6):=fnMU (zcy_ p_self p_value)
noncomputable def zb0_ (p_self:Qq6):Mo (Out Bool Unit Unit) :=
 (Mo.bind (Mo.bind (Mo.ok p_self) fun a_1=>Mo.ok a_1.2.2.2.1) fun r_2=>Mo.ok (.rt r_2))
noncomputable def zbY_ (p_self:Qq6):Mo Bool:=fnO (zb0_ p_self)
noncomputable def zat_ (p_self:Qq1) (p_level:Int) (p_numbers:(List Int)):Mo (Out (Unit×Qq1) Unit Qq1) :=
 (thenO (S:=Qq1) (Mo.bind (Mo.bind (Mo.ok p_numbers) fun c_2=>Mo.ok (enumL c_2)) fun xs_27=>forO (fun (s_1:Qq1) x_3=>(Mo.bind (Mo.bind (Mo.bind (Mo.bind (Mo.ok (s_1,fun (z:Qq1)=>z)) fun y_4=>Mo.ok (y_4.1.2.2.2.1,fun (z':(List (List Qq6)))=>y_4.2 (y_4.1.1,(y_4.1.2.1,(y_4.1.2.2.1,(z',y_4.1.2.2.2.2)))))) fun y_5=>Mo.bind (Mo.ok p_level) fun j_6=>Mo.bind (Mo.opt (ixN y_5.1.length j_6)) fun n_7=>Mo.bind (Mo.opt (y_5.1[n_7]?)) fun z_8=>Mo.ok (z_8,fun (z':(List Qq6))=>y_5.2 (y_5.1.set n_7 z'))) fun y_9=>Mo.bind (Mo.ok x_3.1) fun j_10=>Mo.bind (Mo.opt (ixN y_9.1.length j_10)) fun n_11=>Mo.bind (Mo.opt (y_9.1[n_11]?)) fun z_12=>Mo.ok (z_12,fun (z':Qq6)=>y_9.2 (y_9.1.set n_11 z'))) fun y_13=>(Mo.bind (Mo.ok (y_13.1,fun (z:Qq6)=>z)) fun y_15=>Mo.bind (Mo.ok x_3.2) fun c_16=>Mo.bind (Mo.noex (zcL_ y_15.1 c_16)) fun q_17=>Mo.bind (Mo.ok (y_15.2 q_17.2)) fun x_18=>(thenO (S:=Qq1) (Mo.bind (Mo.bind (Mo.ok x_18) fun o_19=>Mo.noex (zbY_ o_19)) fun c_20=>if c_20 then (Mo.bind (Mo.ok true) fun a_23=>Mo.bind (Mo.bind (Mo.ok ((y_13.2 x_18),fun (z:Qq1)=>z)) fun y_22=>Mo.ok (y_22.1.2.2.2.2.2.1,fun (z':(List (Int×Bool)))=>y_22.2 (y_22.1.1,(y_22.1.2.1,(y_22.1.2.2.1,(y_22.1.2.2.2.1,(y_22.1.2.2.2.2.1,(z',y_22.1.2.2.2.2.2.2)))))))) fun y_24=>Mo.bind (Mo.ok x_3.1) fun z_25=>Mo.lim (y_24.1.length+1) (Mo.bind (Mo.ok (y_24.2 (putA y_24.1 z_25 a_23))) fun x_26=>(Mo.ok (.nx x_26)))) else (Mo.ok (.nx (y_13.2 x_18)))) fun s_21=>(Mo.ok (.nx s_21)))))) xs_27 p_self) fun s_1=>(Mo.ok (.nx s_1)))
noncomputable def z9_ (p_self:Qq1) (p_level:Int) (p_numbers:(List Int)):Mo (Unit×Qq1):=fnMU (zat_ p_self p_level p_numbers)
noncomputable def zb9_ (p_self:Qq6):Mo (Out (List Nat) Unit Unit) :=
 (Mo.bind (Mo.bind (Mo.bind (Mo.bind (Mo.ok p_self) fun a_1=>Mo.ok a_1.2.2.1) fun c_2=>Mo.grd (c_2.natAbs.log2<1920) (Mo.ok (strI c_2))) fun a_4=>Mo.bind (Mo.bind (Mo.ok p_self) fun a_3=>Mo.ok a_3.1) fun b_5=>Mo.grd (PadOk b_5=true) (Mo.ok (zfL a_4 b_5))) fun r_6=>Mo.ok (.rt r_6))
noncomputable def zay_ (p_self:Qq6):Mo (List Nat):=fnO (zb9_ p_self)
noncomputable def zeZ_ (p_card:(List Nat)) (p_field:(Int×Int)):Mo (Out (List Nat) Unit Unit) :=
 (Mo.bind (Mo.bind (Mo.ok p_card) fun a_7=>Mo.bind (Mo.bind (Mo.bind (Mo.bind (Mo.ok p_field) fun a_1=>Mo.ok a_1.1) fun a_2=>Mo.bind (Mo.ok (1:Int)) fun b_3=>Mo.ok (a_2-b_3)) fun i_4=>Mo.ok (some i_4)) fun b_8=>Mo.bind (Mo.bind (Mo.bind (Mo.ok p_field) fun a_5=>Mo.ok a_5.2) fun i_6=>Mo.ok (some i_6)) fun d_9=>Mo.lim a_7.length (Mo.ok (cutG a_7 b_8 d_9))) fun r_10=>Mo.ok (.rt r_10))
noncomputable def zb8_ (p_card:(List Nat)) (p_field:(Int×Int)):Mo (List Nat):=fnO (zeZ_ p_card p_field)
noncomputable def zaH_ (p_self:Qq1) (p_level:Int):Mo (Out (List Nat) Unit Unit) :=
 (Mo.bind (Mo.bind (Mo.bind (Mo.ok ([42]:List Nat)) fun a_8=>Mo.bind (Mo.bind (Mo.bind (Mo.ok (1:Int)) fun a_4=>Mo.bind (Mo.bind (Mo.bind (Mo.ok p_self) fun a_2=>Mo.ok a_2.1) fun c_3=>Mo.ok (c_3.length:Int)) fun b_5=>Mo.ok (a_4+b_5)) fun a_6=>Mo.bind (Mo.ok p_level) fun b_7=>Mo.ok (a_6-b_7)) fun b_9=>Mo.grd (CRep a_8.length b_9) (Mo.ok (repL a_8 b_9))) fun c_10=>Mo.ok [c_10]) fun words_1=>(Mo.bind (Mo.bind (Mo.bind (Mo.bind (Mo.ok p_self) fun a_11=>Mo.ok a_11.1) fun a_13=>Mo.bind (Mo.ok none) fun b_14=>Mo.bind (Mo.bind (Mo.ok p_level) fun i_12=>Mo.ok (some i_12)) fun d_15=>Mo.ok (cutG a_13 b_14 d_15)) fun xs_22=>compM (fun x_16=>cond1 (Mo.ok true) (Mo.bind (Mo.bind (Mo.bind (Mo.bind (Mo.ok p_self) fun a_17=>Mo.ok a_17.2.2.2.2.1) fun a_18=>Mo.opt a_18) fun a_19=>Mo.bind (Mo.ok x_16) fun c_20=>Mo.ok (a_19,c_20)) fun c_21=>Mo.noex (zb8_ c_21.1 c_21.2))) xs_22 []) fun a_23=>Mo.lim (words_1.length+a_23.length) (Mo.bind (Mo.bind (Mo.bind (Mo.bind (Mo.ok p_self) fun a_24=>Mo.ok a_24.2.2.2.1) fun a_25=>Mo.bind (Mo.ok p_level) fun b_26=>Mo.opt (atI a_25 b_26)) fun xs_29=>compM (fun x_27=>cond1 (Mo.ok true) (Mo.bind (Mo.ok x_27) fun o_28=>Mo.noex (zay_ o_28))) xs_29 []) fun a_30=>Mo.lim ((words_1++a_23).length+a_30.length) (Mo.bind (Mo.bind (Mo.ok ([32]:List Nat)) fun a_31=>Mo.bind (Mo.ok ((words_1++a_23)++a_30)) fun b_32=>Mo.grd (JoinOk ⟨a_31.toArray⟩ (strsL b_32)=true) (Mo.ok (joinS a_31 (strsL b_32)))) fun r_33=>Mo.ok (.rt r_33)))))
noncomputable def zaG_ (p_self:Qq1) (p_level:Int):Mo (List Nat):=fnO (zaH_ p_self p_level)
noncomputable def zdc_ (p_self:Qq6):Mo (Out (Unit×Qq6) Unit Qq6) :=
 (Mo.bind (Mo.ok (0:Int)) fun a_1=>Mo.bind (Mo.ok (p_self,fun (z:Qq6)=>z)) fun y_3=>Mo.bind (Mo.ok (y_3.2 (y_3.1.1,(y_3.1.2.1,(a_1,y_3.1.2.2.2))))) fun x_2=>(Mo.bind (Mo.ok false) fun a_4=>Mo.bind (Mo.ok (x_2,fun (z:Qq6)=>z)) fun y_6=>Mo.bind (Mo.ok (y_6.2 (y_6.1.1,(y_6.1.2.1,(y_6.1.2.2.1,(a_4,y_6.1.2.2.2.2)))))) fun x_5=>(Mo.ok (.nx x_5))))
noncomputable def zbn_ (p_self:Qq6):Mo (Unit×Qq6):=fnMU (zdc_ p_self)
noncomputable def zcx_ (p_self:Qq6):Mo (Out Int Unit Unit) :=
 (Mo.bind (Mo.bind (Mo.ok p_self) fun a_1=>Mo.ok a_1.2.2.1) fun r_2=>Mo.ok (.rt r_2))
noncomputable def zea_ (p_self:Qq6):Mo Int:=fnO (zcx_ p_self)
noncomputable def zau_ (p_self:Qq1) (p_level:Int):Mo (Out ((List Nat)×Qq1) Unit Unit) :=
 (Mo.bind (Mo.bind (Mo.ok p_self) fun o_2=>Mo.bind (Mo.ok p_level) fun c_3=>Mo.noex (zaG_ o_2 c_3)) fun line_1=>(thenO (S:=Qq1) (Mo.bind (Mo.bind (Mo.ok p_level) fun a_4=>Mo.bind (Mo.ok (0:Int)) fun b_5=>Mo.ok (decide (b_5<a_4))) fun c_6=>if c_6 then (Mo.bind (Mo.bind (Mo.ok (p_self,fun (z:Qq1)=>z)) fun y_18=>Mo.bind (Mo.bind (Mo.bind (Mo.ok p_level) fun a_8=>Mo.bind (Mo.ok (1:Int)) fun b_9=>Mo.ok (a_8-b_9)) fun a_16=>Mo.bind (Mo.bind (Mo.bind (Mo.bind (Mo.ok p_self) fun a_10=>Mo.ok a_10.2.2.2.1) fun a_11=>Mo.bind (Mo.ok p_level) fun b_12=>Mo.opt (atI a_11 b_12)) fun xs_15=>compM (fun x_13=>cond1 (Mo.ok true) (Mo.bind (Mo.ok x_13) fun o_14=>Mo.noex (zea_ o_14))) xs_15 []) fun c_17=>Mo.ok (a_16,c_17)) fun c_19=>Mo.bind (Mo.noex (z9_ y_18.1 c_19.1 c_19.2)) fun q_20=>Mo.ok (q_20.1,y_18.2 q_20.2)) fun q_21=>(Mo.ok (.nx q_21.2))) else (Mo.ok (.nx p_self))) fun s_7=>(thenO (S:=Qq1) (Mo.bind (Mo.bind (Mo.bind (Mo.ok (s_7,fun (z:Qq1)=>z)) fun y_22=>Mo.ok (y_22.1.2.2.2.1,fun (z':(List (List Qq6)))=>y_22.2 (y_22.1.1,(y_22.1.2.1,(y_22.1.2.2.1,(z',y_22.1.2.2.2.2)))))) fun y_23=>Mo.bind (Mo.ok p_level) fun j_24=>Mo.bind (Mo.opt (ixN y_23.1.length j_24)) fun n_25=>Mo.bind (Mo.opt (y_23.1[n_25]?)) fun z_26=>Mo.ok (z_26,fun (z':(List Qq6))=>y_23.2 (y_23.1.set n_25 z'))) fun y_27=>Mo.bind (mapX (fun z_28=>Mo.bind (Mo.noex (zbn_ z_28)) fun q_29=>Mo.ok q_29.2) y_27.1) fun xs_30=>Mo.ok (.nx (y_27.2 xs_30))) fun s_31=>(Mo.bind (Mo.ok line_1) fun r_32=>Mo.ok (.rt (r_32,s_31))))))
noncomputable def zab_ (p_self:Qq1) (p_level:Int):Mo ((List Nat)×Qq1):=fnMR (zau_ p_self p_level)
noncomputable def z5_ (p_self:Qq1) (p_outermost:Int):Mo (Out ((List (List Nat))×Qq1) Unit Unit) :=
 (Mo.bind (Mo.ok ([]:List (List Nat))) fun lines_1=>(thenO (S:=((List (List Nat))×Qq1)) (Mo.bind (Mo.bind (Mo.bind (Mo.bind (Mo.bind (Mo.ok p_self) fun a_3=>Mo.ok a_3.1) fun c_4=>Mo.ok (c_4.length:Int)) fun a_10=>Mo.bind (Mo.bind (Mo.bind (Mo.ok p_outermost) fun a_5=>Mo.bind (Mo.ok (1:Int)) fun b_6=>Mo.ok (a_5-b_6)) fun a_8=>Mo.bind (Mo.bind (Mo.ok (1:Int)) fun a_7=>Mo.ok (-a_7)) fun c_9=>Mo.ok (a_8,c_9)) fun c_11=>Mo.ok (a_10,c_11)) fun c_12=>Mo.grd (c_12.2.2 = -1 ∧ -(2 ^ 61)≤c_12.1∧c_12.1<2 ^ 61 ∧ -(2 ^ 61)≤c_12.2.1∧c_12.2.1<2 ^ 61) (Mo.ok (rngD c_12.1 (c_12.1-c_12.2.1).toNat))) fun xs_18=>forO (fun (s_2:((List (List Nat))×Qq1)) x_13=>(Mo.bind (Mo.bind (Mo.ok (s_2.2,fun (z:Qq1)=>z)) fun y_14=>Mo.bind (Mo.ok x_13) fun c_15=>Mo.bind (Mo.noex (zab_ y_14.1 c_15)) fun q_16=>Mo.ok (q_16.1,y_14.2 q_16.2)) fun q_17=>Mo.lim (s_2.1.length+1) (Mo.ok (.nx ((s_2.1++[q_17.1]),q_17.2))))) xs_18 (lines_1,p_self)) fun s_2=>(Mo.ok (.rt (s_2.1,s_2.2)))))
noncomputable def zB_ (p_self:Qq1) (p_outermost:Int):Mo ((List (List Nat))×Qq1):=fnMR (z5_ p_self p_outermost)
noncomputable def zeV_ (p_card:(List Nat)):Mo (Out (List Nat) Unit Unit) :=
 (Mo.bind (Mo.bind (Mo.ok p_card) fun a_2=>Mo.bind (Mo.bind (Mo.ok (36:Int)) fun i_1=>Mo.ok (some i_1)) fun b_3=>Mo.bind (Mo.ok none) fun d_4=>Mo.lim a_2.length (Mo.ok (cutG a_2 b_3 d_4))) fun r_5=>Mo.ok (.rt r_5))
noncomputable def zeQ_ (p_card:(List Nat)):Mo (List Nat):=fnO (zeV_ p_card)
noncomputable def zeS_ (p_card:(List Nat)) (p_column:Int):Mo (Out (List Nat) Unit Unit) :=
 (Mo.bind (Mo.bind (Mo.ok p_card) fun a_3=>Mo.bind (Mo.bind (Mo.ok p_column) fun a_1=>Mo.bind (Mo.ok (1:Int)) fun b_2=>Mo.ok (a_1-b_2)) fun b_4=>Mo.lim a_3.length (Mo.opt ((atI a_3 b_4).map fun c=>[c]))) fun r_5=>Mo.ok (.rt r_5))
noncomputable def zeU_ (p_card:(List Nat)) (p_column:Int):Mo (List Nat):=fnO (zeS_ p_card p_column)
noncomputable def zeR_ (p_card:(List Nat)) (p_board:(List (Int×Int))):Mo (Out (List Nat) Unit Unit) :=
 (Mo.bind (Mo.bind (Mo.bind (Mo.ok (36:Int)) fun c_2=>Mo.grd (-(2 ^ 62)≤c_2∧c_2<2 ^ 62) (Mo.ok (rngI 0 c_2.toNat))) fun xs_4=>compM (fun x_3=>cond1 (Mo.ok true) (Mo.ok ([32]:List Nat))) xs_4 []) fun signs_1=>(thenO (S:=(List (List Nat))) (Mo.bind (Mo.ok p_board) fun xs_21=>forO (fun (s_5:(List (List Nat))) x_6=>(Mo.bind (Mo.bind (Mo.bind (Mo.ok p_card) fun a_12=>Mo.bind (Mo.bind (Mo.ok x_6) fun a_11=>Mo.ok a_11.1) fun c_13=>Mo.ok (a_12,c_13)) fun c_14=>Mo.noex (zeU_ c_14.1 c_14.2)) fun a_18=>Mo.bind (Mo.bind (Mo.bind (Mo.ok x_6) fun a_15=>Mo.ok a_15.2) fun a_16=>Mo.bind (Mo.ok (1:Int)) fun b_17=>Mo.ok (a_16-b_17)) fun j_19=>Mo.bind (Mo.opt ((ixN (s_5).length j_19).map fun n=>(s_5).set n a_18)) fun signs_20=>(Mo.ok (.nx signs_20)))) xs_21 signs_1) fun s_5=>(Mo.bind (Mo.bind (Mo.ok ([]:List Nat)) fun a_22=>Mo.bind (Mo.ok s_5) fun b_23=>Mo.grd (JoinOk ⟨a_22.toArray⟩ (strsL b_23)=true) (Mo.ok (joinS a_22 (strsL b_23)))) fun r_24=>Mo.ok (.rt r_24))))
noncomputable def zeX_ (p_card:(List Nat)) (p_board:(List (Int×Int))):Mo (List Nat):=fnO (zeR_ p_card p_board)
noncomputable def zak_ (p_self:Qq1) (p_card:(List Nat)):Mo (Out Int Unit Unit) :=
 (thenO (S:=Unit) (Mo.bind (Mo.bind (Mo.bind (Mo.ok p_self) fun a_2=>Mo.ok a_2.1) fun c_3=>Mo.ok (enumL c_3)) fun xs_19=>forO (fun (_:Unit) x_4=>(Mo.bind (Mo.bind (Mo.bind (Mo.bind (Mo.ok p_card) fun a_5=>Mo.bind (Mo.ok x_4.2) fun c_6=>Mo.ok (a_5,c_6)) fun c_7=>Mo.noex (zb8_ c_7.1 c_7.2)) fun a_13=>Mo.bind (Mo.bind (Mo.bind (Mo.bind (Mo.bind (Mo.ok p_self) fun a_8=>Mo.ok a_8.2.2.2.2.1) fun a_9=>Mo.opt a_9) fun a_10=>Mo.bind (Mo.ok x_4.2) fun c_11=>Mo.ok (a_10,c_11)) fun c_12=>Mo.noex (zb8_ c_12.1 c_12.2)) fun b_14=>Mo.ok (!decide (a_13=b_14))) fun c_15=>if c_15 then (Mo.bind (Mo.bind (Mo.ok x_4.1) fun a_16=>Mo.bind (Mo.ok (1:Int)) fun b_17=>Mo.ok (a_16+b_17)) fun r_18=>Mo.ok (.rt r_18)) else (Mo.ok (.nx ())))) xs_19 ()) fun _=>(Mo.bind (Mo.bind (Mo.bind (Mo.bind (Mo.ok p_self) fun a_20=>Mo.ok a_20.1) fun c_21=>Mo.ok (c_21.length:Int)) fun a_22=>Mo.bind (Mo.ok (1:Int)) fun b_23=>Mo.ok (a_22+b_23)) fun r_24=>Mo.ok (.rt r_24)))
noncomputable def zV_ (p_self:Qq1) (p_card:(List Nat)):Mo Int:=fnO (zak_ p_self p_card)
noncomputable def zdl_ (p_figures:(List Nat)):Mo (Out Int Unit Unit) :=
 (Mo.bind (Mo.ok (0:Int)) fun value_1=>(thenO (S:=Int) (Mo.bind (Mo.bind (Mo.ok p_figures) fun a_3=>Mo.ok (a_3.map fun c=>[c])) fun xs_12=>forO (fun (s_2:Int) x_4=>(Mo.bind (Mo.bind (Mo.bind (Mo.ok s_2) fun a_6=>Mo.bind (Mo.ok (10:Int)) fun b_7=>Mo.grd (IntMulOk a_6 b_7) (Mo.ok (a_6*b_7))) fun a_10=>Mo.bind (Mo.bind (Mo.ok ([48,49,50,51,52,53,54,55,56,57]:List Nat)) fun a_8=>Mo.bind (Mo.ok x_4) fun b_9=>Mo.grd (findS a_8 b_9 ≠ -1) (Mo.ok (findS a_8 b_9))) fun b_11=>Mo.ok (a_10+b_11)) fun value_5=>(Mo.ok (.nx value_5)))) xs_12 value_1) fun s_2=>(Mo.bind (Mo.ok s_2) fun r_13=>Mo.ok (.rt r_13))))
noncomputable def zdm_ (p_figures:(List Nat)):Mo Int:=fnO (zdl_ p_figures)
noncomputable def zdv_ (p_card:(List Nat)) (p_field:(Int×Int)):Mo (Out Int Unit Unit) :=
 (Mo.bind (Mo.bind (Mo.bind (Mo.bind (Mo.bind (Mo.ok p_card) fun a_2=>Mo.bind (Mo.ok p_field) fun c_3=>Mo.ok (a_2,c_3)) fun c_4=>Mo.noex (zb8_ c_4.1 c_4.2)) fun a_5=>Mo.ok (a_5.map fun c=>[c])) fun xs_10=>compM (fun x_6=>cond1 (Mo.ok true) (Mo.bind (Mo.bind (Mo.ok x_6) fun a_7=>Mo.bind (Mo.ok ([48,49,50,51,52,53,54,55,56,57]:List Nat)) fun b_8=>Mo.ok (inS a_7 b_8)) fun c_9=>if c_9 then (Mo.ok x_6) else (Mo.ok ([48]:List Nat)))) xs_10 []) fun figures_1=>(Mo.bind (Mo.bind (Mo.bind (Mo.ok ([]:List Nat)) fun a_11=>Mo.bind (Mo.ok figures_1) fun b_12=>Mo.grd (JoinOk ⟨a_11.toArray⟩ (strsL b_12)=true) (Mo.ok (joinS a_11 (strsL b_12)))) fun c_13=>Mo.noex (zdm_ c_13)) fun r_14=>Mo.ok (.rt r_14)))
noncomputable def zck_ (p_card:(List Nat)) (p_field:(Int×Int)):Mo Int:=fnO (zdv_ p_card p_field)
noncomputable def zbS_ (p_self:Qq1) (p_card:(List Nat)):Mo (Out ((List (List Nat))×Qq1) Unit Unit) :=
 (Mo.bind (Mo.ok ([]:List (List Nat))) fun lines_1=>(thenO (S:=((List (List Nat))×Qq1)) (Mo.bind (Mo.bind (Mo.bind (Mo.ok p_self) fun a_2=>Mo.ok a_2.2.2.2.2.1) fun a_3=>Mo.bind (Mo.ok ()) fun b_4=>Mo.ok a_3.isSome) fun c_5=>if c_5 then (Mo.bind (Mo.bind (Mo.ok (p_self,fun (z:Qq1)=>z)) fun y_9=>Mo.bind (Mo.bind (Mo.ok p_self) fun o_7=>Mo.bind (Mo.ok p_card) fun c_8=>Mo.noex (zV_ o_7 c_8)) fun c_10=>Mo.bind (Mo.noex (zB_ y_9.1 c_10)) fun q_11=>Mo.ok (q_11.1,y_9.2 q_11.2)) fun q_12=>(Mo.ok (.nx (q_12.1,q_12.2)))) else (Mo.ok (.nx (lines_1,p_self)))) fun s_6=>(Mo.bind (Mo.bind (Mo.ok p_card) fun c_14=>Mo.noex (zeQ_ c_14)) fun mark_13=>(Mo.bind (Mo.bind (Mo.bind (Mo.ok p_card) fun a_17=>Mo.bind (Mo.bind (Mo.ok s_6.2) fun a_16=>Mo.ok a_16.2.2.1) fun c_18=>Mo.ok (a_17,c_18)) fun c_19=>Mo.noex (zeX_ c_19.1 c_19.2)) fun laid_15=>(Mo.bind (Mo.bind (Mo.bind (Mo.ok mark_13) fun a_25=>Mo.lim a_25.length (Mo.ok a_25)) fun a_26=>Mo.grd (a_26.length≤1000) (Mo.bind (Mo.bind (Mo.ok ([32]:List Nat)) fun a_23=>Mo.grd (a_23.length≤1000) (Mo.bind (Mo.bind (Mo.bind (Mo.ok laid_15) fun a_20=>Mo.lim a_20.length (Mo.ok a_20)) fun a_21=>Mo.grd (a_21.length≤1000) (Mo.bind (Mo.ok ([]:List Nat)) fun l_22=>Mo.ok (a_21++l_22))) fun l_24=>Mo.ok (a_23++l_24))) fun l_27=>Mo.ok (a_26++l_27))) fun a_28=>Mo.lim (s_6.1.length+1) (Mo.bind (Mo.bind (Mo.ok (s_6.2,fun (z:Qq1)=>z)) fun y_39=>Mo.bind (Mo.bind (Mo.bind (Mo.bind (Mo.ok s_6.2) fun a_29=>Mo.ok a_29.1) fun c_30=>Mo.ok (c_30.length:Int)) fun a_37=>Mo.bind (Mo.bind (Mo.bind (Mo.ok s_6.2) fun a_31=>Mo.ok a_31.2.1) fun xs_36=>compM (fun x_32=>cond1 (Mo.ok true) (Mo.bind (Mo.bind (Mo.ok p_card) fun a_33=>Mo.bind (Mo.ok x_32) fun c_34=>Mo.ok (a_33,c_34)) fun c_35=>Mo.noex (zck_ c_35.1 c_35.2))) xs_36 []) fun c_38=>Mo.ok (a_37,c_38)) fun c_40=>Mo.bind (Mo.noex (z9_ y_39.1 c_40.1 c_40.2)) fun q_41=>Mo.ok (q_41.1,y_39.2 q_41.2)) fun q_42=>(Mo.bind (Mo.bind (Mo.ok p_card) fun a_46=>Mo.ok (some a_46)) fun a_43=>Mo.bind (Mo.ok (q_42.2,fun (z:Qq1)=>z)) fun y_45=>Mo.bind (Mo.ok (y_45.2 (y_45.1.1,(y_45.1.2.1,(y_45.1.2.2.1,(y_45.1.2.2.2.1,(a_43,y_45.1.2.2.2.2.2))))))) fun x_44=>(Mo.ok (.rt ((s_6.1++[a_28]),x_44))))))))))
noncomputable def zbQ_ (p_self:Qq1) (p_card:(List Nat)):Mo ((List (List Nat))×Qq1):=fnMR (zbS_ p_self p_card)
noncomputable def zdn_ (p_found:(List (List Nat))) (p_due:(List (List Nat))):Mo (Out Bool Unit Unit) :=
 (thenO (S:=Unit) (Mo.bind (Mo.bind (Mo.bind (Mo.bind (Mo.ok p_found) fun a_1=>Mo.ok true) fun a_2=>Mo.ok (!a_2)) fun c_5=>if c_5 then Mo.ok true else (Mo.bind (Mo.ok p_found) fun a_3=>Mo.bind (Mo.ok p_due) fun b_4=>Mo.ok (!((eqL (fun a b=>decide (a=b))) a_3 b_4)))) fun c_6=>if c_6 then (Mo.bind (Mo.ok false) fun r_8=>Mo.ok (.rt r_8)) else (Mo.ok (.nx ()))) fun _=>(thenO (S:=Unit) (Mo.bind (Mo.ok p_found) fun xs_15=>forO (fun (_:Unit) x_10=>(Mo.bind (Mo.bind (Mo.bind (Mo.ok x_10) fun a_11=>Mo.ok true) fun a_12=>Mo.ok (!a_12)) fun c_13=>if c_13 then (Mo.bind (Mo.ok false) fun r_14=>Mo.ok (.rt r_14)) else (Mo.ok (.nx ())))) xs_15 ()) fun _=>(Mo.bind (Mo.ok true) fun r_16=>Mo.ok (.rt r_16))))
noncomputable def zcq_ (p_found:(List (List Nat))) (p_due:(List (List Nat))):Mo Bool:=fnO (zdn_ p_found p_due)
noncomputable def zbv_ (p_self:Qq1):Mo (Out ((List (List Nat))×Qq1) Unit Unit) :=
 (thenO (S:=Unit) (Mo.bind (Mo.bind (Mo.bind (Mo.ok p_self) fun a_1=>Mo.ok a_1.2.2.2.2.1) fun a_2=>Mo.bind (Mo.ok ()) fun b_3=>Mo.ok a_2.isNone) fun c_4=>if c_4 then (Mo.bind (Mo.bind (Mo.ok (p_self,fun (z:Qq1)=>z)) fun y_6=>Mo.bind (Mo.ok (0:Int)) fun c_7=>Mo.bind (Mo.noex (zab_ y_6.1 c_7)) fun q_8=>Mo.ok (q_8.1,y_6.2 q_8.2)) fun q_9=>Mo.ok (.rt ([q_9.1],q_9.2))) else (Mo.ok (.nx ()))) fun _=>(Mo.bind (Mo.bind (Mo.ok (p_self,fun (z:Qq1)=>z)) fun y_10=>Mo.bind (Mo.ok (0:Int)) fun c_11=>Mo.bind (Mo.noex (zB_ y_10.1 c_11)) fun q_12=>Mo.ok (q_12.1,y_10.2 q_12.2)) fun q_13=>Mo.ok (.rt q_13)))
noncomputable def zbw_ (p_self:Qq1):Mo ((List (List Nat))×Qq1):=fnMR (zbv_ p_self)
noncomputable def zdr_ (p_number_here:Int) (p_figures:Int):Mo (Out (List Nat) Unit Unit) :=
 (Mo.bind (Mo.ok ([]:List Nat)) fun found_1=>(thenO (S:=((List Nat)×Int)) (Mo.bind (Mo.bind (Mo.ok p_figures) fun c_3=>Mo.grd (-(2 ^ 62)≤c_3∧c_3<2 ^ 62) (Mo.ok (rngI 0 c_3.toNat))) fun xs_15=>forO (fun (s_2:((List Nat)×Int)) x_4=>(Mo.bind (Mo.bind (Mo.bind (Mo.ok ([48,49,50,51,52,53,54,55,56,57]:List Nat)) fun a_8=>Mo.bind (Mo.bind (Mo.ok s_2.2) fun a_6=>Mo.bind (Mo.ok (10:Int)) fun b_7=>Mo.grd (0<b_7) (Mo.ok (a_6 % b_7))) fun b_9=>Mo.lim a_8.length (Mo.opt ((atI a_8 b_9).map fun c=>[c]))) fun a_10=>Mo.bind (Mo.ok s_2.1) fun b_11=>Mo.lim (a_10.length+b_11.length) (Mo.ok (a_10++b_11))) fun found_5=>(Mo.bind (Mo.bind (Mo.ok s_2.2) fun a_13=>Mo.bind (Mo.ok (10:Int)) fun b_14=>Mo.grd (CDivG a_13 b_14) (Mo.ok (a_13 / b_14))) fun number_here_12=>(Mo.ok (.nx (found_5,number_here_12)))))) xs_15 (found_1,p_number_here)) fun s_2=>(Mo.bind (Mo.ok s_2.1) fun r_16=>Mo.ok (.rt r_16))))
noncomputable def zco_ (p_number_here:Int) (p_figures:Int):Mo (List Nat):=fnO (zdr_ p_number_here p_figures)
noncomputable def zbC_ (p_card_here:(List Nat)) (p_board_here:(List (Int×Int))):Mo (Out (List Nat) Unit Unit) :=
 (Mo.bind (Mo.ok ([]:(List (Int×(List Nat))))) fun signs_1=>(thenO (S:=(List (Int×(List Nat)))) (Mo.bind (Mo.ok p_board_here) fun xs_10=>forO (fun (s_2:(List (Int×(List Nat)))) x_3=>(Mo.bind (Mo.bind (Mo.ok p_card_here) fun a_6=>Mo.bind (Mo.bind (Mo.ok x_3.1) fun a_4=>Mo.bind (Mo.ok (1:Int)) fun b_5=>Mo.ok (a_4-b_5)) fun b_7=>Mo.lim a_6.length (Mo.opt ((atI a_6 b_7).map fun c=>[c]))) fun a_8=>Mo.bind (Mo.ok x_3.2) fun y_9=>Mo.lim (s_2.length+1) (Mo.ok (.nx (putA s_2 y_9 a_8))))) xs_10 signs_1) fun s_2=>(Mo.bind (Mo.bind (Mo.bind (Mo.ok p_card_here) fun a_13=>Mo.bind (Mo.bind (Mo.ok (36:Int)) fun i_12=>Mo.ok (some i_12)) fun b_14=>Mo.bind (Mo.ok none) fun d_15=>Mo.lim a_13.length (Mo.ok (cutG a_13 b_14 d_15))) fun a_16=>Mo.bind (Mo.ok ([32]:List Nat)) fun b_17=>Mo.lim (a_16.length+b_17.length) (Mo.ok (a_16++b_17))) fun text_11=>(thenO (S:=(List Nat)) (Mo.bind (Mo.bind (Mo.bind (Mo.ok (1:Int)) fun a_19=>Mo.bind (Mo.ok (37:Int)) fun c_20=>Mo.ok (a_19,c_20)) fun c_21=>Mo.grd (-(2 ^ 62)≤c_21.1∧c_21.1<2 ^ 62 ∧ -(2 ^ 62)≤c_21.2∧c_21.2<2 ^ 62) (Mo.ok (rngI c_21.1 (c_21.2-c_21.1).toNat))) fun xs_29=>forO (fun (s_18:(List Nat)) x_22=>(Mo.bind (Mo.bind (Mo.ok s_18) fun a_27=>Mo.bind (Mo.bind (Mo.ok s_2) fun m_24=>Mo.bind (Mo.ok x_22) fun k_25=>Mo.bind (Mo.ok ([32]:List Nat)) fun d_26=>Mo.ok ((getA m_24 k_25).getD d_26)) fun b_28=>Mo.lim (a_27.length+b_28.length) (Mo.ok (a_27++b_28))) fun text_23=>(Mo.ok (.nx text_23)))) xs_29 text_11) fun s_18=>(Mo.bind (Mo.ok s_18) fun r_30=>Mo.ok (.rt r_30))))))
noncomputable def zbD_ (p_card_here:(List Nat)) (p_board_here:(List (Int×Int))):Mo (List Nat):=fnO (zbC_ p_card_here p_board_here)
noncomputable def zcz_ (p_card_here:(List Nat)) (p_field_here:(Int×Int)):Mo (Out Int Unit Unit) :=
 (Mo.bind (Mo.ok (0:Int)) fun total_1=>(thenO (S:=Int) (Mo.bind (Mo.bind (Mo.bind (Mo.ok p_card_here) fun a_9=>Mo.bind (Mo.bind (Mo.bind (Mo.bind (Mo.ok p_field_here) fun a_3=>Mo.ok a_3.1) fun a_4=>Mo.bind (Mo.ok (1:Int)) fun b_5=>Mo.ok (a_4-b_5)) fun i_6=>Mo.ok (some i_6)) fun b_10=>Mo.bind (Mo.bind (Mo.bind (Mo.ok p_field_here) fun a_7=>Mo.ok a_7.2) fun i_8=>Mo.ok (some i_8)) fun d_11=>Mo.lim a_9.length (Mo.ok (cutG a_9 b_10 d_11))) fun a_12=>Mo.ok (a_12.map fun c=>[c])) fun xs_24=>forO (fun (s_2:Int) x_13=>(Mo.bind (Mo.bind (Mo.bind (Mo.ok (10:Int)) fun a_15=>Mo.bind (Mo.ok s_2) fun b_16=>Mo.grd (IntMulOk a_15 b_16) (Mo.ok (a_15*b_16))) fun a_22=>Mo.bind (Mo.bind (Mo.bind (Mo.ok (0:Int)) fun a_19=>Mo.bind (Mo.bind (Mo.ok ([48,49,50,51,52,53,54,55,56,57]:List Nat)) fun a_17=>Mo.bind (Mo.ok x_13) fun b_18=>Mo.ok (findS a_17 b_18)) fun c_20=>Mo.ok (a_19,c_20)) fun c_21=>Mo.ok (max c_21.1 c_21.2)) fun b_23=>Mo.ok (a_22+b_23)) fun total_14=>(Mo.ok (.nx total_14)))) xs_24 total_1) fun s_2=>(Mo.bind (Mo.ok s_2) fun r_25=>Mo.ok (.rt r_25))))
noncomputable def zb1_ (p_card_here:(List Nat)) (p_field_here:(Int×Int)):Mo Int:=fnO (zcz_ p_card_here p_field_here)
noncomputable def zpc_ (p_script:(List Int)):Mo (Out Bool Unit Unit) :=
 (Mo.bind (Mo.bind (Mo.bind (Mo.bind (Mo.ok p_script) fun a_2=>Mo.bind (Mo.ok (0:Int)) fun c_3=>Mo.ok (a_2,c_3)) fun c_4=>Mo.noex (zaz_ c_4.1 c_4.2)) fun c_5=>Mo.noex (zdt_ c_5)) fun kinds_here_1=>(Mo.bind (Mo.bind (Mo.bind (Mo.bind (Mo.ok p_script) fun a_7=>Mo.bind (Mo.ok (2:Int)) fun c_8=>Mo.ok (a_7,c_8)) fun c_9=>Mo.noex (zaz_ c_9.1 c_9.2)) fun a_10=>Mo.bind (Mo.ok (5:Int)) fun b_11=>Mo.grd (0<b_11) (Mo.ok (a_10 % b_11))) fun many_6=>(Mo.bind (Mo.bind (Mo.bind (Mo.bind (Mo.ok (3:Int)) fun a_13=>Mo.bind (Mo.ok (9:Int)) fun c_14=>Mo.ok (a_13,c_14)) fun c_15=>Mo.ok [c_15.1,c_15.2]) fun a_21=>Mo.bind (Mo.bind (Mo.bind (Mo.bind (Mo.ok p_script) fun a_16=>Mo.bind (Mo.ok (3:Int)) fun c_17=>Mo.ok (a_16,c_17)) fun c_18=>Mo.noex (zaz_ c_18.1 c_18.2)) fun a_19=>Mo.bind (Mo.ok (2:Int)) fun b_20=>Mo.grd (0<b_20) (Mo.ok (a_19 % b_20))) fun b_22=>Mo.opt (atI a_21 b_22)) fun most_12=>(Mo.bind (Mo.bind (Mo.bind (Mo.bind (Mo.bind (Mo.bind (Mo.ok p_script) fun a_24=>Mo.bind (Mo.ok (2:Int)) fun c_25=>Mo.ok (a_24,c_25)) fun c_26=>Mo.noex (zaz_ c_26.1 c_26.2)) fun a_27=>Mo.bind (Mo.ok many_6) fun c_28=>Mo.ok (a_27,c_28)) fun c_29=>Mo.noex (zbj_ c_29.1 c_29.2)) fun xs_34=>compM (fun x_30=>cond1 (Mo.ok true) (Mo.bind (Mo.bind (Mo.ok x_30) fun a_31=>Mo.bind (Mo.ok most_12) fun c_32=>Mo.ok (a_31,c_32)) fun c_33=>Mo.noex (zbl_ c_33.1 c_33.2))) xs_34 []) fun sums_23=>(Mo.bind (Mo.bind (Mo.bind (Mo.bind (Mo.ok p_script) fun a_36=>Mo.bind (Mo.ok (4:Int)) fun c_37=>Mo.ok (a_36,c_37)) fun c_38=>Mo.noex (zaz_ c_38.1 c_38.2)) fun c_39=>Mo.noex (zdq_ c_39)) fun board_here_35=>(Mo.bind (Mo.bind (Mo.bind (Mo.bind (Mo.ok sums_23) fun c_44=>Mo.ok c_44) fun a_45=>Mo.bind (Mo.bind (Mo.bind (Mo.ok board_here_35) fun c_41=>Mo.ok c_41) fun a_42=>Mo.bind (Mo.ok ([]:List (List (Int×Int)))) fun l_43=>Mo.ok (a_42::l_43)) fun l_46=>Mo.ok (a_45::l_46)) fun l_47=>Mo.lim l_47.length (Mo.ok l_47)) fun handed_40=>(Mo.bind (Mo.bind (Mo.bind (Mo.ok ([]:List (Int×Int))) fun a_57=>Mo.bind (Mo.bind (Mo.bind (Mo.ok handed_40) fun a_49=>Mo.bind (Mo.ok (0:Int)) fun b_50=>Mo.opt (atI a_49 b_50)) fun a_55=>Mo.bind (Mo.bind (Mo.ok (12:Int)) fun a_53=>Mo.bind (Mo.bind (Mo.ok handed_40) fun a_51=>Mo.bind (Mo.ok (1:Int)) fun b_52=>Mo.opt (atI a_51 b_52)) fun c_54=>Mo.ok (a_53,c_54)) fun c_56=>Mo.ok (a_55,c_56)) fun c_58=>Mo.ok (a_57,c_58)) fun c_59=>Mo.bind (Mo.noex (za1_ () c_59.1 c_59.2.1 c_59.2.2.1 c_59.2.2.2)) fun q_60=>Mo.ok q_60.2) fun counter_48=>(thenO (S:=Unit) (Mo.bind (Mo.bind (Mo.ok handed_40) fun a_64=>Mo.bind (Mo.bind (Mo.bind (Mo.ok sums_23) fun a_61=>Mo.bind (Mo.ok board_here_35) fun c_62=>Mo.ok (a_61,c_62)) fun c_63=>Mo.ok [c_63.1,c_63.2]) fun b_65=>Mo.ok (!((eqL (eqL (fun a b=>(fun a b=>decide (a=b)) a.1 b.1 && (fun a b=>decide (a=b)) a.2 b.2))) a_64 b_65))) fun c_66=>if c_66 then (Mo.bind (Mo.ok false) fun r_68=>Mo.ok (.rt r_68)) else (Mo.ok (.nx ()))) fun _=>(Mo.bind (Mo.bind (Mo.ok (handed_40,fun (z:(List (List (Int×Int))))=>z)) fun y_69=>Mo.bind (Mo.ok (0:Int)) fun j_70=>Mo.bind (Mo.opt (ixN y_69.1.length j_70)) fun n_71=>Mo.bind (Mo.opt (y_69.1[n_71]?)) fun z_72=>Mo.ok (z_72,fun (z':(List (Int×Int)))=>y_69.2 (y_69.1.set n_71 z'))) fun y_73=>Mo.bind (Mo.ok (y_73.2 [])) fun x_74=>(Mo.bind (Mo.bind (Mo.ok (x_74,fun (z:(List (List (Int×Int))))=>z)) fun y_75=>Mo.bind (Mo.ok (1:Int)) fun j_76=>Mo.bind (Mo.opt (ixN y_75.1.length j_76)) fun n_77=>Mo.bind (Mo.opt (y_75.1[n_77]?)) fun z_78=>Mo.ok (z_78,fun (z':(List (Int×Int)))=>y_75.2 (y_75.1.set n_77 z'))) fun y_79=>Mo.bind (Mo.ok (y_79.2 [])) fun x_80=>(Mo.bind (Mo.bind (Mo.bind (Mo.ok (0:Int)) fun c_82=>Mo.ok [c_82]) fun a_83=>Mo.bind (Mo.ok many_6) fun b_84=>Mo.grd (CRep a_83.length b_84) (Mo.ok (repL a_83 b_84))) fun totals_81=>(Mo.bind (Mo.ok ([]:List (List (List Nat)))) fun told_85=>(Mo.bind (Mo.ok ([]:List (List (List Nat)))) fun due_86=>(thenO (S:=((List (List (List Nat)))×(Qq1×((List (List (List Nat)))×(List Int))))) (Mo.bind (Mo.bind (Mo.bind (Mo.ok p_script) fun a_90=>Mo.bind (Mo.bind (Mo.ok (5:Int)) fun i_88=>Mo.ok (some i_88)) fun b_91=>Mo.bind (Mo.bind (Mo.ok (65:Int)) fun i_89=>Mo.ok (some i_89)) fun d_92=>Mo.ok (cutG a_90 b_91 d_92)) fun c_93=>Mo.ok (enumL c_93)) fun xs_132=>forO (fun (s_87:((List (List (List Nat)))×(Qq1×((List (List (List Nat)))×(List Int))))) x_94=>(Mo.bind (Mo.bind (Mo.bind (Mo.ok x_94.2) fun a_98=>Mo.bind (Mo.bind (Mo.ok x_94.1) fun a_96=>Mo.bind (Mo.ok kinds_here_1) fun c_97=>Mo.ok (a_96,c_97)) fun c_99=>Mo.ok (a_98,c_99)) fun c_100=>Mo.noex (zdV_ c_100.1 c_100.2.1 c_100.2.2)) fun card_here_95=>(Mo.bind (Mo.bind (Mo.ok (s_87.2.1,fun (z:Qq1)=>z)) fun y_101=>Mo.bind (Mo.ok card_here_95) fun c_102=>Mo.bind (Mo.noex (zbQ_ y_101.1 c_102)) fun q_103=>Mo.ok (q_103.1,y_101.2 q_103.2)) fun q_104=>Mo.lim (s_87.1.length+1) (Mo.bind (Mo.bind (Mo.bind (Mo.bind (Mo.ok card_here_95) fun a_105=>Mo.bind (Mo.ok board_here_35) fun c_106=>Mo.ok (a_105,c_106)) fun c_107=>Mo.noex (zbD_ c_107.1 c_107.2)) fun c_108=>Mo.ok [c_108]) fun a_109=>Mo.lim (s_87.2.2.1.length+1) (thenO (S:=Unit) (Mo.bind (Mo.bind (Mo.bind (Mo.bind (Mo.bind (Mo.ok (s_87.1++[q_104.1])) fun a_110=>Mo.bind (Mo.ok x_94.1) fun b_111=>Mo.opt (atI a_110 b_111)) fun a_114=>Mo.bind (Mo.bind (Mo.ok (s_87.2.2.1++[a_109])) fun a_112=>Mo.bind (Mo.ok x_94.1) fun b_113=>Mo.opt (atI a_112 b_113)) fun c_115=>Mo.ok (a_114,c_115)) fun c_116=>Mo.noex (zcq_ c_116.1 c_116.2)) fun a_117=>Mo.ok (!a_117)) fun c_118=>if c_118 then (Mo.bind (Mo.ok false) fun r_120=>Mo.ok (.rt r_120)) else (Mo.ok (.nx ()))) fun _=>(Mo.bind (Mo.bind (Mo.bind (Mo.bind (Mo.ok s_87.2.2.2) fun a_122=>Mo.bind (Mo.ok sums_23) fun c_123=>Mo.ok (a_122,c_123)) fun c_124=>Mo.ok (c_124.1.zip c_124.2)) fun xs_131=>compM (fun x_125=>cond1 (Mo.ok true) (Mo.bind (Mo.ok x_125.1) fun a_129=>Mo.bind (Mo.bind (Mo.bind (Mo.ok card_here_95) fun a_126=>Mo.bind (Mo.ok x_125.2) fun c_127=>Mo.ok (a_126,c_127)) fun c_128=>Mo.noex (zb1_ c_128.1 c_128.2)) fun b_130=>Mo.ok (a_129+b_130))) xs_131 []) fun totals_121=>(Mo.ok (.nx ((s_87.1++[q_104.1]),q_104.2,(s_87.2.2.1++[a_109]),totals_121))))))))) xs_132 (told_85,counter_48,due_86,totals_81)) fun s_87=>(thenO (S:=Unit) (Mo.bind (Mo.bind (Mo.bind (Mo.ok s_87.2.1) fun o_133=>Mo.noex (zbg_ o_133)) fun a_134=>Mo.bind (Mo.ok ([]:List Int)) fun b_135=>Mo.ok (!((eqL (fun a b=>decide (a=b))) a_134 b_135))) fun c_136=>if c_136 then (Mo.bind (Mo.ok false) fun r_138=>Mo.ok (.rt r_138)) else (Mo.ok (.nx ()))) fun _=>(Mo.bind (Mo.ok ([42]:List Nat)) fun line_139=>(thenO (S:=(List Nat)) (Mo.bind (Mo.ok s_87.2.2.2) fun xs_150=>forO (fun (s_140:(List Nat)) x_141=>(Mo.bind (Mo.bind (Mo.bind (Mo.ok s_140) fun a_143=>Mo.bind (Mo.ok ([32]:List Nat)) fun b_144=>Mo.lim (a_143.length+b_144.length) (Mo.ok (a_143++b_144))) fun a_148=>Mo.bind (Mo.bind (Mo.bind (Mo.ok x_141) fun a_145=>Mo.bind (Mo.ok (12:Int)) fun c_146=>Mo.ok (a_145,c_146)) fun c_147=>Mo.noex (zco_ c_147.1 c_147.2)) fun b_149=>Mo.lim (a_148.length+b_149.length) (Mo.ok (a_148++b_149))) fun line_142=>(Mo.ok (.nx line_142)))) xs_150 line_139) fun s_140=>(Mo.bind (Mo.bind (Mo.ok (s_87.2.1,fun (z:Qq1)=>z)) fun y_151=>Mo.bind (Mo.ok ()) fun c_152=>Mo.bind (Mo.noex (zbw_ y_151.1)) fun q_153=>Mo.ok (q_153.1,y_151.2 q_153.2)) fun q_154=>Mo.bind (Mo.bind (Mo.bind (Mo.bind (Mo.ok q_154.1) fun a_156=>Mo.bind (Mo.bind (Mo.ok s_140) fun c_155=>Mo.ok [c_155]) fun c_157=>Mo.ok (a_156,c_157)) fun c_158=>Mo.noex (zcq_ c_158.1 c_158.2)) fun c_165=>if c_165 then (Mo.bind (Mo.bind (Mo.bind (Mo.ok q_154.2) fun o_159=>Mo.noex (zbg_ o_159)) fun a_160=>Mo.bind (Mo.ok ([]:List Int)) fun b_161=>Mo.ok (((eqL (fun a b=>decide (a=b))) a_160 b_161))) fun c_164=>if c_164 then (Mo.bind (Mo.ok s_87.1) fun a_162=>Mo.bind (Mo.ok s_87.2.2.1) fun b_163=>Mo.ok (((eqL (eqL (fun a b=>decide (a=b)))) a_162 b_163))) else Mo.ok false) else Mo.ok false) fun r_166=>Mo.ok (.rt r_166)))))))))))))))))))
noncomputable def zpf_ (p_script:(List Int)):Mo Bool:=fnO (zpc_ p_script)
end K33
namespace K33
open PySem PySem.Spec PyProof.Rows L2
noncomputable def top (i:Nat):Stmt:=PySem.Challenge.pw_cardshop_k33_cards_printed.main.body.getD i (.Pass ⟨0,0,0,0⟩)
noncomputable abbrev zcG_:Stmt:=top 6
noncomputable abbrev zN_:Stmt:=inClass (top 14) 0
noncomputable abbrev zG_:Stmt:=inClass (top 16) 0
noncomputable abbrev zaA_:Stmt:=top 19
noncomputable abbrev za9_:Stmt:=top 20
noncomputable abbrev za7_:Stmt:=top 23
noncomputable abbrev zZ_:Stmt:=inClass (top 16) 3
noncomputable abbrev zal_:Stmt:=top 18
noncomputable abbrev za5_:Stmt:=top 22
noncomputable abbrev zbp_:Stmt:=top 21
noncomputable abbrev zaD_:Stmt:=inClass (top 14) 1
noncomputable abbrev zO_:Stmt:=inClass (top 14) 3
noncomputable abbrev zy_:Stmt:=inClass (top 16) 8
noncomputable abbrev zam_:Stmt:=inClass (top 14) 5
noncomputable abbrev zbR_:Stmt:=top 11
noncomputable abbrev zC_:Stmt:=inClass (top 16) 7
noncomputable abbrev zap_:Stmt:=inClass (top 14) 4
noncomputable abbrev zae_:Stmt:=inClass (top 14) 2
noncomputable abbrev zx_:Stmt:=inClass (top 16) 6
noncomputable abbrev zu_:Stmt:=inClass (top 16) 5
noncomputable abbrev zbU_:Stmt:=top 2
noncomputable abbrev zbP_:Stmt:=top 3
noncomputable abbrev zbT_:Stmt:=top 9
noncomputable abbrev zr_:Stmt:=inClass (top 16) 4
noncomputable abbrev zba_:Stmt:=top 7
noncomputable abbrev za4_:Stmt:=top 12
noncomputable abbrev zad_:Stmt:=inClass (top 16) 1
noncomputable abbrev za0_:Stmt:=top 27
noncomputable abbrev zP_:Stmt:=inClass (top 16) 2
noncomputable abbrev za6_:Stmt:=top 26
noncomputable abbrev z3_:Stmt:=top 24
noncomputable abbrev zaB_:Stmt:=top 25
noncomputable abbrev ziU_:Stmt:=top 28
noncomputable def zbO_ (K:PySem.W.Frag):Sp:=Ct K (csLast tyInt) (fun c=>zgi_ c) (owF tyInt)
noncomputable def zI_ (K:PySem.W.Frag):Sp:=CtM K (owI (gA K "Wheel") [] psNil) (Qq4 K) (csLast tyInt) (fun x c=>z4_ x c) (owF tyNon)
noncomputable def zD_ (K:PySem.W.Frag):Sp:=CtM K (owI (gA K "Counter") [] psNil) (Qq0 K) (csCons (tyL Qq2) (csCons (tyL Qq2) (csCons tyInt (csLast (tyL Qq2))))) (fun x c=>za1_ x c.1 c.2.1 c.2.2.1 c.2.2.2) (owF tyNon)
noncomputable def zw_ (K:PySem.W.Frag):Sp:=Ct K (csCons tyInt (csLast tyInt)) (fun c=>zbj_ c.1 c.2) (owL tyInt)
noncomputable def zaK_ (K:PySem.W.Frag):Sp:=Ct K (csLast tyInt) (fun c=>zdt_ c) (owL tyInt)
noncomputable def zaC_ (K:PySem.W.Frag):Sp:=Ct K (csLast tyInt) (fun c=>zdq_ c) (owL Qq2)
noncomputable def zE_ (K:PySem.W.Frag):Sp:=Ct K (csLast (Qq3 K)) (fun c=>zbg_ c) (owL tyInt)
noncomputable def zH_ (K:PySem.W.Frag):Sp:=Ct K (csCons (tySc K) (csLast tyInt)) (fun c=>zaz_ c.1 c.2) (owF tyInt)
noncomputable def zaJ_ (K:PySem.W.Frag):Sp:=Ct K (csCons tyInt (csLast tyInt)) (fun c=>zbl_ c.1 c.2) (owF Qq2)
noncomputable def za2_ (K:PySem.W.Frag):Sp:=Ct K (csCons tyInt (csCons tyInt (csLast (tyL tyInt)))) (fun c=>zdV_ c.1 c.2.1 c.2.2) (owF tyStr)
noncomputable def zao_ (K:PySem.W.Frag):Sp:=CtM K (Qq4 K) (Qq4 K) (csLast tyInt) (fun x c=>zcL_ x c) (owF tyNon)
noncomputable def zJ_ (K:PySem.W.Frag):Sp:=Ct K (csLast (Qq5 K)) (fun c=>zbY_ c) (owF tyBl)
noncomputable def zi_ (K:PySem.W.Frag):Sp:=CtM K (Qq0 K) (Qq0 K) (csCons tyInt (csLast (tyL tyInt))) (fun x c=>z9_ x c.1 c.2) (owF tyNon)
noncomputable def zaf_ (K:PySem.W.Frag):Sp:=Ct K (csLast (Qq5 K)) (fun c=>zay_ c) (owF tyStr)
noncomputable def z8_ (K:PySem.W.Frag):Sp:=Ct K (csCons tyStr (csLast Qq2)) (fun c=>zb8_ c.1 c.2) (owF tyStr)
noncomputable def zz_ (K:PySem.W.Frag):Sp:=Ct K (csCons (Qq3 K) (csLast tyInt)) (fun c=>zaG_ c.1 c.2) (owF tyStr)
noncomputable def zac_ (K:PySem.W.Frag):Sp:=CtM K (Qq4 K) (Qq4 K) csNil (fun x c=>zbn_ x) (owF tyNon)
noncomputable def z2_ (K:PySem.W.Frag):Sp:=Ct K (csLast (Qq5 K)) (fun c=>zea_ c) (owF tyInt)
noncomputable def zh_ (K:PySem.W.Frag):Sp:=CtM K (Qq0 K) (Qq0 K) (csLast tyInt) (fun x c=>zab_ x c) (owF tyStr)
noncomputable def zg_ (K:PySem.W.Frag):Sp:=CtM K (Qq0 K) (Qq0 K) (csLast tyInt) (fun x c=>zB_ x c) (owL tyStr)
noncomputable def zbx_ (K:PySem.W.Frag):Sp:=Ct K (csLast tyStr) (fun c=>zeQ_ c) (owF tyStr)
noncomputable def zbo_ (K:PySem.W.Frag):Sp:=Ct K (csCons tyStr (csLast tyInt)) (fun c=>zeU_ c.1 c.2) (owF tyStr)
noncomputable def zbu_ (K:PySem.W.Frag):Sp:=Ct K (csCons tyStr (csLast (tyL Qq2))) (fun c=>zeX_ c.1 c.2) (owF tyStr)
noncomputable def zn_ (K:PySem.W.Frag):Sp:=Ct K (csCons (Qq3 K) (csLast tyStr)) (fun c=>zV_ c.1 c.2) (owF tyInt)
noncomputable def zaF_ (K:PySem.W.Frag):Sp:=Ct K (csLast tyStr) (fun c=>zdm_ c) (owF tyInt)
noncomputable def zaL_ (K:PySem.W.Frag):Sp:=Ct K (csCons tyStr (csLast Qq2)) (fun c=>zck_ c.1 c.2) (owF tyInt)
noncomputable def z0_ (K:PySem.W.Frag):Sp:=CtM K (Qq0 K) (Qq0 K) (csLast tyStr) (fun x c=>zbQ_ x c) (owL tyStr)
noncomputable def zah_ (K:PySem.W.Frag):Sp:=Ct K (csCons (tyL tyStr) (csLast (tyL tyStr))) (fun c=>zcq_ c.1 c.2) (owF tyBl)
noncomputable def zF_ (K:PySem.W.Frag):Sp:=CtM K (Qq0 K) (Qq0 K) csNil (fun x c=>zbw_ x) (owL tyStr)
noncomputable def zaI_ (K:PySem.W.Frag):Sp:=Ct K (csCons tyInt (csLast tyInt)) (fun c=>zco_ c.1 c.2) (owF tyStr)
noncomputable def zM_ (K:PySem.W.Frag):Sp:=Ct K (csCons tyStr (csLast (tyL Qq2))) (fun c=>zbD_ c.1 c.2) (owF tyStr)
noncomputable def zaq_ (K:PySem.W.Frag):Sp:=Ct K (csCons tyStr (csLast Qq2)) (fun c=>zb1_ c.1 c.2) (owF tyInt)
noncomputable def zgS_ (K:PySem.W.Frag):Sp:=fun vs H Q _=>∃ (a:Addr) (ns:List Int),vs=[.ref a]∧SqL K H a (ns.map V.int)∧ns.length≤63∧BitsOk ns∧∀ H',Q (.bl true) H'
noncomputable def zft_ (K:PySem.W.Frag):TS:=(tSeq (tAsg (tC (.int 1)) (gName 1)) (tSeq (tFor (mRng1 (tCons (mVar 0) tNil)) (gName 2) (tAsg (tOp mMulX (mVar 1) (tC (.int 10))) (gName 1))) (tRet (mVar 1))))
noncomputable abbrev RD_ten_to (K:PySem.W.Frag):Prop:=∀ vs H Q E,zbO_ K vs H Q E→zft_ K { nx:=fun _ H'=>Q .non H',rt:=Q } (start ["power", "value", "step"] vs) H
theorem zjp_ {K:PySem.W.Frag}:∀ vs H Q E,zbO_ K vs H Q E→vs.length=1:=by
 rintro vs H Q E ⟨F,c,_,hc,_⟩; exact (zf_:CsN (csLast tyInt) 1) hc
noncomputable def zaX_ (K:PySem.W.Frag):TS:=(tSeq (mSFld (gA K "Wheel") (mVar 0) (mVar 1) "figures") (tSeq (mSFld (gA K "Wheel") (mVar 0) (tCall (zbO_ K) [] E0 (tCons (mVar 1) tNil)) "power") (tSeq (mSFld (gA K "Wheel") (mVar 0) (tC (.int 0)) "kept") (mSFld (gA K "Wheel") (mVar 0) (tC (.bl false)) "over"))))
noncomputable abbrev RD_Wheel___init__ (K:PySem.W.Frag):Prop:=∀ vs H Q E,zI_ K vs H Q E→zaX_ K { nx:=fun _ H'=>Q .non H',rt:=Q } (start Qn24 vs) H
theorem zer_ {K:PySem.W.Frag}:∀ vs H Q E,zI_ K vs H Q E→vs.length=2:=by
 rintro vs H Q E ⟨F,h,x,c,w,ws,rfl,_,_,_,_,hc,_⟩; rw [List.length_cons,(zf_:CsN (csLast tyInt) 1) hc]
noncomputable def zaw_ (K:PySem.W.Frag):TS:=(tSeq (mSFld (gA K "Counter") (mVar 0) (tCB (mList K) (tCons (mVar 1) tNil)) "breaks") (tSeq (mSFld (gA K "Counter") (mVar 0) (tCB (mList K) (tCons (mVar 2) tNil)) "sums") (tSeq (mSFld (gA K "Counter") (mVar 0) (tCB (mList K) (tCons (mVar 4) tNil)) "board") (tSeq (mSFld (gA K "Counter") (mVar 0) (tComp ["level"] [("figures",3),("sums",2)] (mRng1 (tCons (tOp mAdd (tCB (mLen K) (tCons (mVar 1) tNil)) (tC (.int 1))) tNil)) (gName 0) tTrue (tComp ["field"] [("figures",1)] (iAny K (mVar 2)) (gName 0) tTrue (tMake (gA K "Wheel") (zI_ K) [] E0 (tCons (mVar 1) tNil)))) "levels") (tSeq (mSFld (gA K "Counter") (mVar 0) (tC .non) "before") (mSFld (gA K "Counter") (mVar 0) tDNewK "run_over"))))))
noncomputable abbrev RD_Counter___init__ (K:PySem.W.Frag):Prop:=∀ vs H Q E,zD_ K vs H Q E→zaw_ K { nx:=fun _ H'=>Q .non H',rt:=Q } (start Qn5 vs) H
theorem zdH_ {K:PySem.W.Frag}:∀ vs H Q E,zD_ K vs H Q E→vs.length=5:=by
 rintro vs H Q E ⟨F,h,x,c,w,ws,rfl,_,_,_,_,hc,_⟩; rw [List.length_cons,((zl_ (zl_ (zl_ zf_))):CsN (csCons (tyL Qq2) (csCons (tyL Qq2) (csCons tyInt (csLast (tyL Qq2))))) 4) hc]
noncomputable def zbX_ (K:PySem.W.Frag):TS:=(tSeq (tAsg (tLst tNil) (gName 2)) (tSeq (tAsg (tOp mAdd (tOp mMod (mVar 0) (tC (.int 2147483647))) (tC (.int 48271))) (gName 3)) (tSeq (tFor (mRng1 (tCons (mVar 1) tNil)) (gName 4) (tSeq (tAsg (tOp mMod (tOp mAdd (tOp mAdd (tOp mMulX (mVar 3) (mVar 3)) (tOp mMulX (tC (.int 48271)) (mVar 3))) (mVar 4)) (tC (.int 2147483647))) (gName 3)) (tDrop (tBM K "list" rAppend (mVar 2) (tCons (mVar 3) tNil))))) (tRet (mVar 2)))))
noncomputable abbrev RD_law_stream (K:PySem.W.Frag):Prop:=∀ vs H Q E,zw_ K vs H Q E→zbX_ K { nx:=fun _ H'=>Q .non H',rt:=Q } (start Qn8 vs) H
theorem zf5_ {K:PySem.W.Frag}:∀ vs H Q E,zw_ K vs H Q E→vs.length=2:=by
 rintro vs H Q E ⟨F,c,_,hc,_⟩; exact ((zl_ zf_):CsN (csCons tyInt (csLast tyInt)) 2) hc
noncomputable def zcf_ (K:PySem.W.Frag):TS:=(tRet (tComp ["_law_number_here"] [] (iAny K (tCall (zw_ K) [] E0 (tCons (mVar 0) (tCons (tC (.int 36)) tNil)))) (gName 0) tTrue (tOp mDivG (mVar 0) (tC (.int 11)))))
noncomputable abbrev RD_law_kinds (K:PySem.W.Frag):Prop:=∀ vs H Q E,zaK_ K vs H Q E→zcf_ K { nx:=fun _ H'=>Q .non H',rt:=Q } (start Qn22 vs) H
theorem zgV_ {K:PySem.W.Frag}:∀ vs H Q E,zaK_ K vs H Q E→vs.length=1:=by
 rintro vs H Q E ⟨F,c,_,hc,_⟩; exact (zf_:CsN (csLast tyInt) 1) hc
noncomputable def zci_ (K:PySem.W.Frag):TS:=(tSeq (tAsg (tLst tNil) (gName 1)) (tSeq (tAsg (tCall (zw_ K) [] E0 (tCons (mVar 0) (tCons (tC (.int 36)) tNil))) (gName 2)) (tSeq (tFor (mRng2 (tCons (tC (.int 1)) (tCons (tC (.int 37)) tNil))) (gName 3) (mIfS (mTest (tOp (mLtK K) (tOp mMod (tOp mDivG (tOp (mIx K) (mVar 2) (tOp mSub (mVar 3) (tC (.int 1)))) (tC (.int 3))) (tC (.int 4))) (tOp mMod (mVar 0) (tC (.int 5))))) (tDrop (tBM K "list" rAppend (mVar 1) (tCons (tTup (tCons (tOp mAdd (tC (.int 1)) (tOp mMod (tOp mDivG (tOp (mIx K) (mVar 2) (tOp mSub (mVar 3) (tC (.int 1)))) (tC (.int 12))) (tC (.int 40)))) (tCons (mVar 3) tNil))) tNil))) tNext)) (tRet (mVar 1)))))
noncomputable abbrev RD_law_board (K:PySem.W.Frag):Prop:=∀ vs H Q E,zaC_ K vs H Q E→zci_ K { nx:=fun _ H'=>Q .non H',rt:=Q } (start Qn12 vs) H
theorem zg3_ {K:PySem.W.Frag}:∀ vs H Q E,zaC_ K vs H Q E→vs.length=1:=by
 rintro vs H Q E ⟨F,c,_,hc,_⟩; exact (zf_:CsN (csLast tyInt) 1) hc
noncomputable def zbi_ (K:PySem.W.Frag):TS:=(tRet (tCB (mSortD K) (tCons (mFld (gA K "Counter") (mVar 0) "run_over") tNil)))
noncomputable abbrev RD_Counter_overs (K:PySem.W.Frag):Prop:=∀ vs H Q E,zE_ K vs H Q E→zbi_ K { nx:=fun _ H'=>Q .non H',rt:=Q } (start Qn4 vs) H
theorem zeO_ {K:PySem.W.Frag}:∀ vs H Q E,zE_ K vs H Q E→vs.length=1:=by
 rintro vs H Q E ⟨F,c,_,hc,_⟩; exact (zf_:CsN (csLast (Qq3 K)) 1) hc
noncomputable def zbG_ (K:PySem.W.Frag):TS:=(tSeq (mIfS (mTest (tOp (mLtK K) (mVar 1) (tCB (mLen K) (tCons (mVar 0) tNil)))) (tRet (tOp (mIx K) (mVar 0) (mVar 1))) tNext) (tRet (tC (.int 0))))
noncomputable abbrev RD_law_cell_at (K:PySem.W.Frag):Prop:=∀ vs H Q E,zH_ K vs H Q E→zbG_ K { nx:=fun _ H'=>Q .non H',rt:=Q } (start Qn14 vs) H
theorem zfE_ {K:PySem.W.Frag}:∀ vs H Q E,zH_ K vs H Q E→vs.length=2:=by
 rintro vs H Q E ⟨F,c,_,hc,_⟩; exact ((zl_ zf_):CsN (csCons (tySc K) (csLast tyInt)) 2) hc
noncomputable def zcr_ (K:PySem.W.Frag):TS:=(tSeq (tAsg (tOp mAdd (tC (.int 1)) (tOp mMod (tOp mDivG (mVar 0) (tC (.int 5))) (tC (.int 36)))) (gName 2)) (tRet (tTup (tCons (mVar 2) (tCons (tCB (mTwo min) (tCons (tC (.int 36)) (tCons (tOp mAdd (mVar 2) (tOp mMod (tOp mDivG (mVar 0) (tC (.int 180))) (mVar 1))) tNil))) tNil)))))
noncomputable abbrev RD_law_field (K:PySem.W.Frag):Prop:=∀ vs H Q E,zaJ_ K vs H Q E→zcr_ K { nx:=fun _ H'=>Q .non H',rt:=Q } (start Qn17 vs) H
theorem zgF_ {K:PySem.W.Frag}:∀ vs H Q E,zaJ_ K vs H Q E→vs.length=2:=by
 rintro vs H Q E ⟨F,c,_,hc,_⟩; exact ((zl_ zf_):CsN (csCons tyInt (csLast tyInt)) 2) hc
noncomputable def zdj_ (K:PySem.W.Frag):TS:=(tSeq (tAsg (tC (tx SG)) (gName 3)) (tSeq (tAsg (tCall (zw_ K) [] E0 (tCons (mVar 0) (tCons (tC (.int 36)) tNil))) (gName 4)) (tSeq (tAsg (tC (tx [])) (gName 5)) (tSeq (tFor (mRng1 (tCons (tC (.int 36)) tNil)) (gName 6) (tSeq (tAsg (tOp mDivG (tOp (mIx K) (mVar 4) (mVar 6)) (tC (.int 7))) (gName 7)) (tSeq (tAsg (tOp mDivG (tOp (mIx K) (mVar 2) (mVar 6)) (tC (.int 5))) (gName 8)) (tSeq (tAsg (tOp mAdd (mVar 8) (tOp mMod (mVar 7) (tC (.int 2)))) (gName 9)) (tSeq (tAsg (tLst (tCons (tOp mAdd (tC (.int 1)) (tOp mMod (mVar 8) (tC (.int 10)))) (tCons (tOp mAdd (tC (.int 1)) (tOp mMod (mVar 7) (tC (.int 10)))) (tCons (tOp mMod (mVar 9) (tC (.int 37))) (tCons (tOp mMod (mVar 7) (tC (.int 37))) (tCons (tOp mAdd (tC (.int 1)) (tOp mMod (mVar 9) (tC (.int 10)))) tNil)))))) (gName 10)) (tAsg (tOp mAdd (mVar 5) (tOp (mIx K) (mVar 3) (tOp (mIx K) (mVar 10) (tOp mMod (tOp (mIx K) (mVar 2) (mVar 6)) (tC (.int 5)))))) (gName 5))))))) (tSeq (tAsg (tOp mAdd (tOp mAdd (tOp (mIx K) (mVar 3) (tOp mMod (mVar 0) (tC (.int 37)))) (tOp (mIx K) (mVar 3) (tOp mMod (mVar 1) (tC (.int 37))))) (tOp (mIx K) (mVar 3) (tOp mMod (tOp (mIx K) (mVar 4) (tC (.int 0))) (tC (.int 37))))) (gName 11)) (tRet (tOp mAdd (tOp mAdd (mVar 5) (mVar 11)) (tOp (mIx K) (mVar 3) (tOp mMod (tOp mDivG (mVar 0) (tC (.int 37))) (tC (.int 37)))))))))))
noncomputable abbrev RD_law_card (K:PySem.W.Frag):Prop:=∀ vs H Q E,za2_ K vs H Q E→zdj_ K { nx:=fun _ H'=>Q .non H',rt:=Q } (start Qn2 vs) H
theorem zhl_ {K:PySem.W.Frag}:∀ vs H Q E,za2_ K vs H Q E→vs.length=3:=by
 rintro vs H Q E ⟨F,c,_,hc,_⟩; exact ((zl_ (zl_ zf_)):CsN (csCons tyInt (csCons tyInt (csLast (tyL tyInt)))) 3) hc
noncomputable def zbW_ (K:PySem.W.Frag):TS:=(tSeq (tAsg (tOp mAdd (mFld (gA K "Wheel") (mVar 0) "kept") (mVar 1)) (gName 2)) (tSeq (mIfS (mTest (tOp mGe (mVar 2) (mFld (gA K "Wheel") (mVar 0) "power"))) (mSFld (gA K "Wheel") (mVar 0) (tC (.bl true)) "over") tNext) (mSFld (gA K "Wheel") (mVar 0) (tOp mMod (mVar 2) (mFld (gA K "Wheel") (mVar 0) "power")) "kept")))
noncomputable abbrev RD_Wheel_rise (K:PySem.W.Frag):Prop:=∀ vs H Q E,zao_ K vs H Q E→zbW_ K { nx:=fun _ H'=>Q .non H',rt:=Q } (start ["self", "value", "risen"] vs) H
theorem zga_ {K:PySem.W.Frag}:∀ vs H Q E,zao_ K vs H Q E→vs.length=2:=by
 rintro vs H Q E ⟨F,h,x,c,w,ws,rfl,_,_,_,_,hc,_⟩; rw [List.length_cons,(zf_:CsN (csLast tyInt) 1) hc]
noncomputable def zaV_ (K:PySem.W.Frag):TS:=(tRet (mFld (gA K "Wheel") (mVar 0) "over"))
noncomputable abbrev RD_Wheel_ran_over (K:PySem.W.Frag):Prop:=∀ vs H Q E,zJ_ K vs H Q E→zaV_ K { nx:=fun _ H'=>Q .non H',rt:=Q } (start Qn4 vs) H
theorem zej_ {K:PySem.W.Frag}:∀ vs H Q E,zJ_ K vs H Q E→vs.length=1:=by
 rintro vs H Q E ⟨F,c,_,hc,_⟩; exact (zf_:CsN (csLast (Qq5 K)) 1) hc
noncomputable def zaa_ (K:PySem.W.Frag):TS:=(tFor (iEnum K (tCons (mVar 2) tNil)) (gTupM K 2 (gConsM (gName 3) (gConsM (gName 4) gNilM))) (tSeq (tAsg (tOp (mIx K) (tOp (mIx K) (mFld (gA K "Counter") (mVar 0) "levels") (mVar 1)) (mVar 3)) (gName 5)) (tSeq (tDrop (tMeth (gA K "Wheel") "rise" (zao_ K) [] E0 (mVar 5) (tCons (mVar 4) tNil))) (mIfS (mTest (tMeth (gA K "Wheel") "ran_over" (zJ_ K) [] E0 (mVar 5) tNil)) (mDPut (mFld (gA K "Counter") (mVar 0) "run_over") (mVar 3) (tC (.bl true))) tNext))))
noncomputable abbrev RD_Counter_raise_level (K:PySem.W.Frag):Prop:=∀ vs H Q E,zi_ K vs H Q E→zaa_ K { nx:=fun _ H'=>Q .non H',rt:=Q } (start Qn13 vs) H
theorem zcZ_ {K:PySem.W.Frag}:∀ vs H Q E,zi_ K vs H Q E→vs.length=3:=by
 rintro vs H Q E ⟨F,h,x,c,w,ws,rfl,_,_,_,_,hc,_⟩; rw [List.length_cons,((zl_ zf_):CsN (csCons tyInt (csLast (tyL tyInt))) 2) hc]
noncomputable def zbJ_ (K:PySem.W.Frag):TS:=(tRet (tBM K "str" mZfill (tCB (mStr) (tCons (mFld (gA K "Wheel") (mVar 0) "kept") tNil)) (tCons (mFld (gA K "Wheel") (mVar 0) "figures") tNil)))
noncomputable abbrev RD_Wheel_shown (K:PySem.W.Frag):Prop:=∀ vs H Q E,zaf_ K vs H Q E→zbJ_ K { nx:=fun _ H'=>Q .non H',rt:=Q } (start Qn4 vs) H
theorem zfO_ {K:PySem.W.Frag}:∀ vs H Q E,zaf_ K vs H Q E→vs.length=1:=by
 rintro vs H Q E ⟨F,c,_,hc,_⟩; exact (zf_:CsN (csLast (Qq5 K)) 1) hc
noncomputable def zeb_ (K:PySem.W.Frag):TS:=(tRet (tSl (mSl K) (mVar 0) (mPart (tOp mSub (tOp (mIx K) (mVar 1) (tC (.int 0))) (tC (.int 1)))) (mPart (tOp (mIx K) (mVar 1) (tC (.int 1))))))
noncomputable abbrev RD_part_of (K:PySem.W.Frag):Prop:=∀ vs H Q E,z8_ K vs H Q E→zeb_ K { nx:=fun _ H'=>Q .non H',rt:=Q } (start Qn7 vs) H
theorem ziF_ {K:PySem.W.Frag}:∀ vs H Q E,z8_ K vs H Q E→vs.length=2:=by
 rintro vs H Q E ⟨F,c,_,hc,_⟩; exact ((zl_ zf_):CsN (csCons tyStr (csLast Qq2)) 2) hc
noncomputable def zai_ (K:PySem.W.Frag):TS:=(tSeq (tAsg (tLst (tCons (tOp mMulX (tC (tx [42])) (tOp mSub (tOp mAdd (tC (.int 1)) (tCB (mLen K) (tCons (mFld (gA K "Counter") (mVar 0) "breaks") tNil))) (mVar 1))) tNil)) (gName 2)) (tSeq (tDrop (tBM K "list" rExtend (mVar 2) (tCons (tComp ["field"] [("self",0)] (iAny K (tSl (mSl K) (mFld (gA K "Counter") (mVar 0) "breaks") tNoPart (mPart (mVar 1)))) (gName 0) tTrue (tCall (z8_ K) [] E0 (tCons (mFld (gA K "Counter") (mVar 1) "before") (tCons (mVar 0) tNil)))) tNil))) (tSeq (tDrop (tBM K "list" rExtend (mVar 2) (tCons (tComp ["wheel"] [] (iAny K (tOp (mIx K) (mFld (gA K "Counter") (mVar 0) "levels") (mVar 1))) (gName 0) tTrue (tMeth (gA K "Wheel") "shown" (zaf_ K) [] E0 (mVar 0) tNil)) tNil))) (tRet (tBM K "str" (mJoin K) (tC (tx [32])) (tCons (mVar 2) tNil))))))
noncomputable abbrev RD_Counter_total_line (K:PySem.W.Frag):Prop:=∀ vs H Q E,zz_ K vs H Q E→zai_ K { nx:=fun _ H'=>Q .non H',rt:=Q } (start ["self", "level", "words"] vs) H
theorem zc7_ {K:PySem.W.Frag}:∀ vs H Q E,zz_ K vs H Q E→vs.length=2:=by
 rintro vs H Q E ⟨F,c,_,hc,_⟩; exact ((zl_ zf_):CsN (csCons (Qq3 K) (csLast tyInt)) 2) hc
noncomputable def zbH_ (K:PySem.W.Frag):TS:=(tSeq (mSFld (gA K "Wheel") (mVar 0) (tC (.int 0)) "kept") (mSFld (gA K "Wheel") (mVar 0) (tC (.bl false)) "over"))
noncomputable abbrev RD_Wheel_reset (K:PySem.W.Frag):Prop:=∀ vs H Q E,zac_ K vs H Q E→zbH_ K { nx:=fun _ H'=>Q .non H',rt:=Q } (start Qn4 vs) H
theorem zfL_ {K:PySem.W.Frag}:∀ vs H Q E,zac_ K vs H Q E→vs.length=1:=by
 rintro vs H Q E ⟨F,h,x,c,w,ws,rfl,_,_,_,_,hc,_⟩; rw [List.length_cons,(zic_:CsN csNil 0) hc]
noncomputable def zbr_ (K:PySem.W.Frag):TS:=(tRet (mFld (gA K "Wheel") (mVar 0) "kept"))
noncomputable abbrev RD_Wheel_amount (K:PySem.W.Frag):Prop:=∀ vs H Q E,z2_ K vs H Q E→zbr_ K { nx:=fun _ H'=>Q .non H',rt:=Q } (start Qn4 vs) H
theorem zfo_ {K:PySem.W.Frag}:∀ vs H Q E,z2_ K vs H Q E→vs.length=1:=by
 rintro vs H Q E ⟨F,c,_,hc,_⟩; exact (zf_:CsN (csLast (Qq5 K)) 1) hc
noncomputable def z7_ (K:PySem.W.Frag):TS:=(tSeq (tAsg (tMeth (gA K "Counter") "total_line" (zz_ K) [] E0 (mVar 0) (tCons (mVar 1) tNil)) (gName 2)) (tSeq (mIfS (mTest (tOp mGt (mVar 1) (tC (.int 0)))) (tDrop (tMeth (gA K "Counter") "raise_level" (zi_ K) [] E0 (mVar 0) (tCons (tOp mSub (mVar 1) (tC (.int 1))) (tCons (tComp ["wheel"] [] (iAny K (tOp (mIx K) (mFld (gA K "Counter") (mVar 0) "levels") (mVar 1))) (gName 0) tTrue (tMeth (gA K "Wheel") "amount" (z2_ K) [] E0 (mVar 0) tNil)) tNil)))) tNext) (tSeq (tFor (iAny K (tOp (mIx K) (mFld (gA K "Counter") (mVar 0) "levels") (mVar 1))) (gName 3) (tDrop (tMeth (gA K "Wheel") "reset" (zac_ K) [] E0 (mVar 3) tNil))) (tRet (mVar 2)))))
noncomputable abbrev RD_Counter_close_level (K:PySem.W.Frag):Prop:=∀ vs H Q E,zh_ K vs H Q E→z7_ K { nx:=fun _ H'=>Q .non H',rt:=Q } (start ["self", "level", "line", "wheel"] vs) H
theorem zcW_ {K:PySem.W.Frag}:∀ vs H Q E,zh_ K vs H Q E→vs.length=2:=by
 rintro vs H Q E ⟨F,h,x,c,w,ws,rfl,_,_,_,_,hc,_⟩; rw [List.length_cons,(zf_:CsN (csLast tyInt) 1) hc]
noncomputable def z6_ (K:PySem.W.Frag):TS:=(tSeq (tAsg (tLst tNil) (gName 2)) (tSeq (tFor (mRng3 (tCons (tCB (mLen K) (tCons (mFld (gA K "Counter") (mVar 0) "breaks") tNil)) (tCons (tOp mSub (mVar 1) (tC (.int 1))) (tCons (mNeg (tC (.int 1))) tNil)))) (gName 3) (tDrop (tBM K "list" rAppend (mVar 2) (tCons (tMeth (gA K "Counter") "close_level" (zh_ K) [] E0 (mVar 0) (tCons (mVar 3) tNil)) tNil)))) (tRet (mVar 2))))
noncomputable abbrev RD_Counter_close_levels (K:PySem.W.Frag):Prop:=∀ vs H Q E,zg_ K vs H Q E→z6_ K { nx:=fun _ H'=>Q .non H',rt:=Q } (start Qn27 vs) H
theorem zcC_ {K:PySem.W.Frag}:∀ vs H Q E,zg_ K vs H Q E→vs.length=2:=by
 rintro vs H Q E ⟨F,h,x,c,w,ws,rfl,_,_,_,_,hc,_⟩; rw [List.length_cons,(zf_:CsN (csLast tyInt) 1) hc]
noncomputable def zd7_ (K:PySem.W.Frag):TS:=(tRet (tSl (mSl K) (mVar 0) (mPart (tC (.int 36))) tNoPart))
noncomputable abbrev RD_mark_of (K:PySem.W.Frag):Prop:=∀ vs H Q E,zbx_ K vs H Q E→zd7_ K { nx:=fun _ H'=>Q .non H',rt:=Q } (start ["card"] vs) H
theorem ziy_ {K:PySem.W.Frag}:∀ vs H Q E,zbx_ K vs H Q E→vs.length=1:=by
 rintro vs H Q E ⟨F,c,_,hc,_⟩; exact (zf_:CsN (csLast tyStr) 1) hc
noncomputable def zd3_ (K:PySem.W.Frag):TS:=(tRet (tOp (mIx K) (mVar 0) (tOp mSub (mVar 1) (tC (.int 1)))))
noncomputable abbrev RD_sign_at (K:PySem.W.Frag):Prop:=∀ vs H Q E,zbo_ K vs H Q E→zd3_ K { nx:=fun _ H'=>Q .non H',rt:=Q } (start Qn26 vs) H
theorem ziD_ {K:PySem.W.Frag}:∀ vs H Q E,zbo_ K vs H Q E→vs.length=2:=by
 rintro vs H Q E ⟨F,c,_,hc,_⟩; exact ((zl_ zf_):CsN (csCons tyStr (csLast tyInt)) 2) hc
noncomputable def zd0_ (K:PySem.W.Frag):TS:=(tSeq (tAsg (tComp ["column"] [] (mRng1 (tCons (tC (.int 36)) tNil)) (gName 0) tTrue (tC (tx [32]))) (gName 2)) (tSeq (tFor (iAny K (mVar 1)) (gName 3) (tAsg (tCall (zbo_ K) [] E0 (tCons (mVar 0) (tCons (tOp (mIx K) (mVar 3) (tC (.int 0))) tNil))) (gSub (mVar 2) (tOp mSub (tOp (mIx K) (mVar 3) (tC (.int 1))) (tC (.int 1))) mSet))) (tRet (tBM K "str" (mJoin K) (tC (tx [])) (tCons (mVar 2) tNil)))))
noncomputable abbrev RD_lay_out (K:PySem.W.Frag):Prop:=∀ vs H Q E,zbu_ K vs H Q E→zd0_ K { nx:=fun _ H'=>Q .non H',rt:=Q } (start ["card", "board", "signs", "wire"] vs) H
theorem ziQ_ {K:PySem.W.Frag}:∀ vs H Q E,zbu_ K vs H Q E→vs.length=2:=by
 rintro vs H Q E ⟨F,c,_,hc,_⟩; exact ((zl_ zf_):CsN (csCons tyStr (csLast (tyL Qq2))) 2) hc
noncomputable def zT_ (K:PySem.W.Frag):TS:=(tSeq (tFor (iEnum K (tCons (mFld (gA K "Counter") (mVar 0) "breaks") tNil)) (gTupM K 2 (gConsM (gName 2) (gConsM (gName 3) gNilM))) (mIfS (mTest (tOp (mNeK K) (tCall (z8_ K) [] E0 (tCons (mVar 1) (tCons (mVar 3) tNil))) (tCall (z8_ K) [] E0 (tCons (mFld (gA K "Counter") (mVar 0) "before") (tCons (mVar 3) tNil))))) (tRet (tOp mAdd (mVar 2) (tC (.int 1)))) tNext)) (tRet (tOp mAdd (tCB (mLen K) (tCons (mFld (gA K "Counter") (mVar 0) "breaks") tNil)) (tC (.int 1)))))
noncomputable abbrev RD_Counter_changed_level (K:PySem.W.Frag):Prop:=∀ vs H Q E,zn_ K vs H Q E→zT_ K { nx:=fun _ H'=>Q .non H',rt:=Q } (start ["self", "card", "place", "field"] vs) H
theorem zch_ {K:PySem.W.Frag}:∀ vs H Q E,zn_ K vs H Q E→vs.length=2:=by
 rintro vs H Q E ⟨F,c,_,hc,_⟩; exact ((zl_ zf_):CsN (csCons (Qq3 K) (csLast tyStr)) 2) hc
noncomputable def zcp_ (K:PySem.W.Frag):TS:=(tSeq (tAsg (tC (.int 0)) (gName 1)) (tSeq (tFor (iAny K (mVar 0)) (gName 2) (tAsg (tOp mAdd (tOp mMulX (mVar 1) (tC (.int 10))) (tBM K "str" mIndex (tC (tx [48,49,50,51,52,53,54,55,56,57])) (tCons (mVar 2) tNil))) (gName 1))) (tRet (mVar 1))))
noncomputable abbrev RD_number_by (K:PySem.W.Frag):Prop:=∀ vs H Q E,zaF_ K vs H Q E→zcp_ K { nx:=fun _ H'=>Q .non H',rt:=Q } (start ["figures", "value", "figure"] vs) H
theorem zha_ {K:PySem.W.Frag}:∀ vs H Q E,zaF_ K vs H Q E→vs.length=1:=by
 rintro vs H Q E ⟨F,c,_,hc,_⟩; exact (zf_:CsN (csLast tyStr) 1) hc
noncomputable def zcj_ (K:PySem.W.Frag):TS:=(tSeq (tAsg (tComp ["sign"] [] (iAny K (tCall (z8_ K) [] E0 (tCons (mVar 0) (tCons (mVar 1) tNil)))) (gName 0) tTrue (mIf (mTest (tOp (mIn K false) (mVar 0) (tC (tx [48,49,50,51,52,53,54,55,56,57])))) (mVar 0) (tC (tx [48])))) (gName 2)) (tRet (tCall (zaF_ K) [] E0 (tCons (tBM K "str" (mJoin K) (tC (tx [])) (tCons (mVar 2) tNil)) tNil))))
noncomputable abbrev RD_number_of (K:PySem.W.Frag):Prop:=∀ vs H Q E,zaL_ K vs H Q E→zcj_ K { nx:=fun _ H'=>Q .non H',rt:=Q } (start ["card", "field", "figures"] vs) H
theorem zgy_ {K:PySem.W.Frag}:∀ vs H Q E,zaL_ K vs H Q E→vs.length=2:=by
 rintro vs H Q E ⟨F,c,_,hc,_⟩; exact ((zl_ zf_):CsN (csCons tyStr (csLast Qq2)) 2) hc
noncomputable def zbt_ (K:PySem.W.Frag):TS:=(tSeq (tAsg (tLst tNil) (gName 2)) (tSeq (mIfS (mTest (tOp mIsNot (mFld (gA K "Counter") (mVar 0) "before") (tC .non))) (tAsg (tMeth (gA K "Counter") "close_levels" (zg_ K) [] E0 (mVar 0) (tCons (tMeth (gA K "Counter") "changed_level" (zn_ K) [] E0 (mVar 0) (tCons (mVar 1) tNil)) tNil)) (gName 2)) tNext) (tSeq (tAsg (tCall (zbx_ K) [] E0 (tCons (mVar 1) tNil)) (gName 3)) (tSeq (tAsg (tCall (zbu_ K) [] E0 (tCons (mVar 1) (tCons (mFld (gA K "Counter") (mVar 0) "board") tNil))) (gName 4)) (tSeq (tDrop (tBM K "list" rAppend (mVar 2) (tCons (tJoin (tJ1 (tUn mFmt (mVar 3)) (tJ1 (tC (tx [32])) (tJ1 (tUn mFmt (mVar 4)) tJ0)))) tNil))) (tSeq (tDrop (tMeth (gA K "Counter") "raise_level" (zi_ K) [] E0 (mVar 0) (tCons (tCB (mLen K) (tCons (mFld (gA K "Counter") (mVar 0) "breaks") tNil)) (tCons (tComp ["field"] [("card",1)] (iAny K (mFld (gA K "Counter") (mVar 0) "sums")) (gName 0) tTrue (tCall (zaL_ K) [] E0 (tCons (mVar 1) (tCons (mVar 0) tNil)))) tNil)))) (tSeq (mSFld (gA K "Counter") (mVar 0) (mVar 1) "before") (tRet (mVar 2)))))))))
noncomputable abbrev RD_Counter_feed (K:PySem.W.Frag):Prop:=∀ vs H Q E,z0_ K vs H Q E→zbt_ K { nx:=fun _ H'=>Q .non H',rt:=Q } (start Qn25 vs) H
theorem zfq_ {K:PySem.W.Frag}:∀ vs H Q E,z0_ K vs H Q E→vs.length=2:=by
 rintro vs H Q E ⟨F,h,x,c,w,ws,rfl,_,_,_,_,hc,_⟩; rw [List.length_cons,(zf_:CsN (csLast tyStr) 1) hc]
noncomputable def zcm_ (K:PySem.W.Frag):TS:=(tSeq (mIfS (mOr (tNot (mTest (tCB (mIsa K) (tCons (mVar 0) (tCons (tC (.ty "list")) tNil))))) (mTest (tOp (mNeK K) (mVar 0) (mVar 1)))) (tRet (tC (.bl false))) tNext) (tSeq (tFor (iAny K (mVar 0)) (gName 2) (mIfS (tNot (mTest (tCB (mIsa K) (tCons (mVar 2) (tCons (tC (.ty "str")) tNil))))) (tRet (tC (.bl false))) tNext)) (tRet (tC (.bl true)))))
noncomputable abbrev RD_law_texts (K:PySem.W.Frag):Prop:=∀ vs H Q E,zah_ K vs H Q E→zcm_ K { nx:=fun _ H'=>Q .non H',rt:=Q } (start Qn28 vs) H
theorem zgH_ {K:PySem.W.Frag}:∀ vs H Q E,zah_ K vs H Q E→vs.length=2:=by
 rintro vs H Q E ⟨F,c,_,hc,_⟩; exact ((zl_ zf_):CsN (csCons (tyL tyStr) (csLast (tyL tyStr))) 2) hc
noncomputable def zaW_ (K:PySem.W.Frag):TS:=(tSeq (mIfS (mTest (tOp mIs (mFld (gA K "Counter") (mVar 0) "before") (tC .non))) (tRet (tLst (tCons (tMeth (gA K "Counter") "close_level" (zh_ K) [] E0 (mVar 0) (tCons (tC (.int 0)) tNil)) tNil))) tNext) (tRet (tMeth (gA K "Counter") "close_levels" (zg_ K) [] E0 (mVar 0) (tCons (tC (.int 0)) tNil))))
noncomputable abbrev RD_Counter_finish (K:PySem.W.Frag):Prop:=∀ vs H Q E,zF_ K vs H Q E→zaW_ K { nx:=fun _ H'=>Q .non H',rt:=Q } (start Qn4 vs) H
theorem zeq_ {K:PySem.W.Frag}:∀ vs H Q E,zF_ K vs H Q E→vs.length=1:=by
 rintro vs H Q E ⟨F,h,x,c,w,ws,rfl,_,_,_,_,hc,_⟩; rw [List.length_cons,(zic_:CsN csNil 0) hc]
noncomputable def zct_ (K:PySem.W.Frag):TS:=(tSeq (tAsg (tC (tx [])) (gName 2)) (tSeq (tFor (mRng1 (tCons (mVar 1) tNil)) (gName 3) (tSeq (tAsg (tOp mAdd (tOp (mIx K) (tC (tx [48,49,50,51,52,53,54,55,56,57])) (tOp mMod (mVar 0) (tC (.int 10)))) (mVar 2)) (gName 2)) (tAsg (tOp mDivG (mVar 0) (tC (.int 10))) (gName 0)))) (tRet (mVar 2))))
noncomputable abbrev RD_law_shown (K:PySem.W.Frag):Prop:=∀ vs H Q E,zaI_ K vs H Q E→zct_ K { nx:=fun _ H'=>Q .non H',rt:=Q } (start Qn11 vs) H
theorem zgK_ {K:PySem.W.Frag}:∀ vs H Q E,zaI_ K vs H Q E→vs.length=2:=by
 rintro vs H Q E ⟨F,c,_,hc,_⟩; exact ((zl_ zf_):CsN (csCons tyInt (csLast tyInt)) 2) hc
noncomputable def zbf_ (K:PySem.W.Frag):TS:=(tSeq (tAsg tDNewK (gName 2)) (tSeq (tFor (iAny K (mVar 1)) (gTupM K 2 (gConsM (gName 3) (gConsM (gName 4) gNilM))) (mDPut (mVar 2) (mVar 4) (tOp (mIx K) (mVar 0) (tOp mSub (mVar 3) (tC (.int 1)))))) (tSeq (tAsg (tOp mAdd (tSl (mSl K) (mVar 0) (mPart (tC (.int 36))) tNoPart) (tC (tx [32]))) (gName 5)) (tSeq (tFor (mRng2 (tCons (tC (.int 1)) (tCons (tC (.int 37)) tNil))) (gName 6) (tAsg (tOp mAdd (mVar 5) (mDGet2 (mVar 2) (mVar 6) (tC (tx [32])))) (gName 5))) (tRet (mVar 5))))))
noncomputable abbrev RD_law_card_line (K:PySem.W.Frag):Prop:=∀ vs H Q E,zM_ K vs H Q E→zbf_ K { nx:=fun _ H'=>Q .non H',rt:=Q } (start Qn3 vs) H
theorem zeL_ {K:PySem.W.Frag}:∀ vs H Q E,zM_ K vs H Q E→vs.length=2:=by
 rintro vs H Q E ⟨F,c,_,hc,_⟩; exact ((zl_ zf_):CsN (csCons tyStr (csLast (tyL Qq2))) 2) hc
noncomputable def zbV_ (K:PySem.W.Frag):TS:=(tSeq (tAsg (tC (.int 0)) (gName 2)) (tSeq (tFor (iAny K (tSl (mSl K) (mVar 0) (mPart (tOp mSub (tOp (mIx K) (mVar 1) (tC (.int 0))) (tC (.int 1)))) (mPart (tOp (mIx K) (mVar 1) (tC (.int 1)))))) (gName 3) (tAsg (tOp mAdd (tOp mMulX (tC (.int 10)) (mVar 2)) (tCB (mTwo max) (tCons (tC (.int 0)) (tCons (tBM K "str" mFind (tC (tx [48,49,50,51,52,53,54,55,56,57])) (tCons (mVar 3) tNil)) tNil)))) (gName 2))) (tRet (mVar 2))))
noncomputable abbrev RD_law_number (K:PySem.W.Frag):Prop:=∀ vs H Q E,zaq_ K vs H Q E→zbV_ K { nx:=fun _ H'=>Q .non H',rt:=Q } (start Qn9 vs) H
theorem zfY_ {K:PySem.W.Frag}:∀ vs H Q E,zaq_ K vs H Q E→vs.length=2:=by
 rintro vs H Q E ⟨F,c,_,hc,_⟩; exact ((zl_ zf_):CsN (csCons tyStr (csLast Qq2)) 2) hc
noncomputable def zoB_ (K:PySem.W.Frag):TS:=(tSeq (tAsg (tCall (zaK_ K) [] E0 (tCons (tCall (zH_ K) [] E0 (tCons (mVar 0) (tCons (tC (.int 0)) tNil))) tNil)) (gName 1)) (tSeq (tAsg (tOp mMod (tCall (zH_ K) [] E0 (tCons (mVar 0) (tCons (tC (.int 2)) tNil))) (tC (.int 5))) (gName 2)) (tSeq (tAsg (tOp (mIx K) (tLst (tCons (tC (.int 3)) (tCons (tC (.int 9)) tNil))) (tOp mMod (tCall (zH_ K) [] E0 (tCons (mVar 0) (tCons (tC (.int 3)) tNil))) (tC (.int 2)))) (gName 3)) (tSeq (tAsg (tComp ["_law_number_here"] [("_law_most",3)] (iAny K (tCall (zw_ K) [] E0 (tCons (tCall (zH_ K) [] E0 (tCons (mVar 0) (tCons (tC (.int 2)) tNil))) (tCons (mVar 2) tNil)))) (gName 0) tTrue (tCall (zaJ_ K) [] E0 (tCons (mVar 0) (tCons (mVar 1) tNil)))) (gName 4)) (tSeq (tAsg (tCall (zaC_ K) [] E0 (tCons (tCall (zH_ K) [] E0 (tCons (mVar 0) (tCons (tC (.int 4)) tNil))) tNil)) (gName 5)) (tSeq (tAsg (tLst (tCons (tCB (mList K) (tCons (mVar 4) tNil)) (tCons (tCB (mList K) (tCons (mVar 5) tNil)) tNil))) (gName 6)) (tSeq (tAsg (tMake (gA K "Counter") (zD_ K) [] E0 (tCons (tLst tNil) (tCons (tOp (mIx K) (mVar 6) (tC (.int 0))) (tCons (tC (.int 12)) (tCons (tOp (mIx K) (mVar 6) (tC (.int 1))) tNil))))) (gName 7)) (tSeq (mIfS (mTest (tOp (mNeK K) (mVar 6) (tLst (tCons (mVar 4) (tCons (mVar 5) tNil))))) (tRet (tC (.bl false))) tNext) (tSeq (tDrop (tBM0 K "list" rClear (tOp (mIx K) (mVar 6) (tC (.int 0))))) (tSeq (tDrop (tBM0 K "list" rClear (tOp (mIx K) (mVar 6) (tC (.int 1))))) (tSeq (tAsg (tOp mMulX (tLst (tCons (tC (.int 0)) tNil)) (mVar 2)) (gName 8)) (tSeq (tAsg (tLst tNil) (gName 9)) (tSeq (tAsg (tLst tNil) (gName 10)) (tSeq (tFor (iEnum K (tCons (tSl (mSl K) (mVar 0) (mPart (tC (.int 5))) (mPart (tC (.int 65)))) tNil)) (gTupM K 2 (gConsM (gName 11) (gConsM (gName 12) gNilM))) (tSeq (tAsg (tCall (za2_ K) [] E0 (tCons (mVar 12) (tCons (mVar 11) (tCons (mVar 1) tNil)))) (gName 13)) (tSeq (tDrop (tBM K "list" rAppend (mVar 9) (tCons (tMeth (gA K "Counter") "feed" (z0_ K) [] E0 (mVar 7) (tCons (mVar 13) tNil)) tNil))) (tSeq (tDrop (tBM K "list" rAppend (mVar 10) (tCons (tLst (tCons (tCall (zM_ K) [] E0 (tCons (mVar 13) (tCons (mVar 5) tNil))) tNil)) tNil))) (tSeq (mIfS (tNot (mTest (tCall (zah_ K) [] E0 (tCons (tOp (mIx K) (mVar 9) (mVar 11)) (tCons (tOp (mIx K) (mVar 10) (mVar 11)) tNil))))) (tRet (tC (.bl false))) tNext) (tAsg (tComp ["_law_total", "_law_field_here"] [("_law_card_here",13)] (iZip K (tCons (mVar 8) (tCons (mVar 4) tNil))) (gTupM K 2 (gConsM (gName 0) (gConsM (gName 1) gNilM))) tTrue (tOp mAdd (mVar 0) (tCall (zaq_ K) [] E0 (tCons (mVar 2) (tCons (mVar 1) tNil))))) (gName 8))))))) (tSeq (mIfS (mTest (tOp (mNeK K) (tMeth (gA K "Counter") "overs" (zE_ K) [] E0 (mVar 7) tNil) (tLst tNil))) (tRet (tC (.bl false))) tNext) (tSeq (tAsg (tC (tx [42])) (gName 14)) (tSeq (tFor (iAny K (mVar 8)) (gName 15) (tAsg (tOp mAdd (tOp mAdd (mVar 14) (tC (tx [32]))) (tCall (zaI_ K) [] E0 (tCons (mVar 15) (tCons (tC (.int 12)) tNil)))) (gName 14))) (tRet (mAndV (tCall (zah_ K) [] E0 (tCons (tMeth (gA K "Counter") "finish" (zF_ K) [] E0 (mVar 7) tNil) (tCons (tLst (tCons (mVar 14) tNil)) tNil))) (mAndV (tOp (mEqK K) (tMeth (gA K "Counter") "overs" (zE_ K) [] E0 (mVar 7) tNil) (tLst tNil)) (tOp (mEqK K) (mVar 9) (mVar 10))))))))))))))))))))))
noncomputable abbrev RD_law (K:PySem.W.Frag):Prop:=∀ vs H Q E,zgS_ K vs H Q E→zoB_ K { nx:=fun _ H'=>Q .non H',rt:=Q } (start Qn1 vs) H
theorem zoo_ {K:PySem.W.Frag}:∀ vs H Q E,zgS_ K vs H Q E→vs.length=1:=by
 intro vs H Q E h; obtain ⟨a,ns,rfl,_⟩:=h; rfl
end K33
namespace K33
open PySem PySem.Spec PyProof.Rows L2
section
variable {P:Program}{w:World}{K:PySem.W.Frag}{mg:Str→Option Value}{base:Heap}
theorem zeY_:FnScope ["power", "value", "step"] ["power"] (defScope zcG_):=⟨rfl,rfl,rfl,by decide +kernel,rfl,by decide +kernel,by decide +kernel⟩
theorem zlf_ (B_range:Gb mg "range") {cdv:Value}{A:Around}{outer:List Env}{s:Shared}{H:Hp}{E:XK}{f:Addr}(hr:Room 0 (A.deeper (envOfC "ten_to" (defScope zcG_) s.heap.objs.size f cdv))) :
  (PSs (cxOf CX0 P w K mg base ["power", "value", "step"] "ten_to" (defScope zcG_) f cdv A outer s H E).nox (defBody zcG_) (zft_ K)) := 
 (ze_ (zag_ (i:=1) zeY_.nd rfl (by first | exact Or.inl rfl | exact Or.inr rfl) zo_) (ze_ (zc1_ PassesOwn.never rfl (zel_ B_range (zc_ (za_ 0) zk_)) (zW_ (i:=2) zeY_.nd rfl (by first | exact Or.inl rfl | exact Or.inr rfl)) (zp_ (zag_ (i:=1) zeY_.nd rfl (by first | exact Or.inl rfl | exact Or.inr rfl) (zaP_ ze2_ (za_ 1) zo_)))) (zp_ (zaS_ (za_ 1)))))
theorem zkX_ (B_range:Gb mg "range") {f:Addr}{fd:FuncData}(F:Fun K "ten_to" "ten_to" zcG_ f fd) (len:∀ vs H Q E,zbO_ K vs H Q E→vs.length=1)
  (rd:∀ vs H Q E,zbO_ K vs H Q E→zft_ K { nx:=fun _ H'=>Q .non H',rt:=Q } (start ["power", "value", "step"] vs) H):FnOk P w K mg base CX0 1 f fd ["power"] (zbO_ K):=by
 refine F.ok zeY_ len (fun cdv A outer s H vs Q E hr h=>⟨_,zlf_ B_range hr,rd vs H Q E h⟩)
theorem zeJ_:FnScope Qn24 Qn24 (defScope zN_):=⟨rfl,rfl,rfl,by decide +kernel,rfl,by decide +kernel,by decide +kernel⟩
theorem zeA_ (G_ten_to:Gd P w K mg base CX0 1 "ten_to" ["power"] (zbO_ K)) (CL_Wheel:Cls K (gA K "Wheel")) (NA_Wheel_figures:NoAttr K (gA K "Wheel") "figures") (NA_Wheel_power:NoAttr K (gA K "Wheel") "power") (NA_Wheel_kept:NoAttr K (gA K "Wheel") "kept") (NA_Wheel_over:NoAttr K (gA K "Wheel") "over") {cdv:Value}{A:Around}{outer:List Env}{s:Shared}{H:Hp}{E:XK}{f:Addr}(hr:Room 1 (A.deeper (envOfC "Wheel.__init__" (defScope zN_) s.heap.objs.size f cdv))) :
  (PSs (cxOf CX0 P w K mg base Qn24 "Wheel.__init__" (defScope zN_) f cdv A outer s H E).nox (defBody zN_) (zaX_ K)) := 
 (ze_ (zb3_ CL_Wheel NA_Wheel_figures (za_ 0) (za_ 1)) (ze_ (zb3_ CL_Wheel NA_Wheel_power (za_ 0) (zQ_ G_ten_to (hr.mono (j:=1) (by decide)) (zc_ (za_ 1) zk_))) (ze_ (zb3_ CL_Wheel NA_Wheel_kept (za_ 0) zo_) (zp_ (zb3_ CL_Wheel NA_Wheel_over (za_ 0) zkP_)))))
theorem zeN_ (G_ten_to:Gd P w K mg base CX0 1 "ten_to" ["power"] (zbO_ K)) (CL_Wheel:Cls K (gA K "Wheel")) (NA_Wheel_figures:NoAttr K (gA K "Wheel") "figures") (NA_Wheel_power:NoAttr K (gA K "Wheel") "power") (NA_Wheel_kept:NoAttr K (gA K "Wheel") "kept") (NA_Wheel_over:NoAttr K (gA K "Wheel") "over") {f:Addr}{fd:FuncData}(F:Fun K "__init__" "Wheel.__init__" zN_ f fd) (len:∀ vs H Q E,zI_ K vs H Q E→vs.length=2)
  (rd:∀ vs H Q E,zI_ K vs H Q E→zaX_ K { nx:=fun _ H'=>Q .non H',rt:=Q } (start Qn24 vs) H):FnOk P w K mg base CX0 2 f fd Qn24 (zI_ K):=by
 refine F.ok zeJ_ len (fun cdv A outer s H vs Q E hr h=>⟨_,zeA_ G_ten_to CL_Wheel NA_Wheel_figures NA_Wheel_power NA_Wheel_kept NA_Wheel_over hr,rd vs H Q E h⟩)
theorem zd5_:FnScope Qn5 Qn5 (defScope zG_):=⟨rfl,rfl,rfl,by decide +kernel,rfl,by decide +kernel,by decide +kernel⟩
theorem zdZ_ (G_Wheel___init__:Gk P w K mg base CX0 2 "Wheel" (gA K "Wheel") Qn24 (zI_ K)) (B_list:Gb mg "list") (B_range:Gb mg "range") (B_len:Gb mg "len") (CL_Counter:Cls K (gA K "Counter")) (NA_Counter_breaks:NoAttr K (gA K "Counter") "breaks") (NA_Counter_sums:NoAttr K (gA K "Counter") "sums") (NA_Counter_board:NoAttr K (gA K "Counter") "board") (NA_Counter_levels:NoAttr K (gA K "Counter") "levels") (NA_Counter_before:NoAttr K (gA K "Counter") "before") (NA_Counter_run_over:NoAttr K (gA K "Counter") "run_over") {cdv:Value}{A:Around}{outer:List Env}{s:Shared}{H:Hp}{E:XK}{f:Addr}(hr:Room 3 (A.deeper (envOfC "Counter.__init__" (defScope zG_) s.heap.objs.size f cdv))) :
  (PSs (cxOf CX0 P w K mg base Qn5 "Counter.__init__" (defScope zG_) f cdv A outer s H E).nox (defBody zG_) (zaw_ K)) := 
 (ze_ (zb3_ CL_Counter NA_Counter_breaks (za_ 0) (znH_ "list" (zde_ rfl) B_list (zc_ (za_ 1) zk_))) (ze_ (zb3_ CL_Counter NA_Counter_sums (za_ 0) (znH_ "list" (zde_ rfl) B_list (zc_ (za_ 2) zk_))) (ze_ (zb3_ CL_Counter NA_Counter_board (za_ 0) (znH_ "list" (zde_ rfl) B_list (zc_ (za_ 4) zk_))) (ze_ (zb3_ CL_Counter NA_Counter_levels (za_ 0) (zfl_ (cl:=_) (lv:=["level"]) (fr:=[("figures",3),("sums",2)]) rfl ⟨rfl,by decide +kernel,rfl,by decide +kernel,(zfi_ (by refine ⟨rfl,by decide +kernel,?_,?_⟩<;>first | exact Or.inl rfl | exact Or.inr rfl) (zfi_ (by refine ⟨rfl,by decide +kernel,?_,?_⟩<;>first | exact Or.inl rfl | exact Or.inr rfl) zix_))⟩ (zel_ B_range (zc_ (zaP_ zas_ (zjN_ zdu_ B_len (zc_ (za_ 1) zk_)) zo_) zk_)) (fun _ _ _ _=>(zW_ (i:=0) (show List.Nodup (["level", "figures", "sums"]:List Str) from by decide +kernel) rfl (Or.inl rfl))) (fun _ _ _ _=>zdi_) (fun _ _ _ _=>(zfl_ (cl:=_) (lv:=["field"]) (fr:=[("figures",1)]) rfl ⟨rfl,by decide +kernel,rfl,by decide +kernel,(zfi_ (by refine ⟨rfl,by decide +kernel,?_,?_⟩<;>first | exact Or.inl rfl | exact Or.inr rfl) zix_)⟩ (zdG_ (za_ 2)) (fun _ _ _ _=>(zW_ (i:=0) (show List.Nodup (["field", "figures"]:List Str) from by decide +kernel) rfl (Or.inl rfl))) (fun _ _ _ _=>zdi_) (fun _ _ _ _=>(zjd_ G_Wheel___init__ (hr.mono (j:=2+1) (by decide)) (zc_ (za_ 1) zk_))))))) (ze_ (zb3_ CL_Counter NA_Counter_before (za_ 0) znA_) (zp_ (zb3_ CL_Counter NA_Counter_run_over (za_ 0) ziY_)))))))
theorem zd9_ (G_Wheel___init__:Gk P w K mg base CX0 2 "Wheel" (gA K "Wheel") Qn24 (zI_ K)) (B_list:Gb mg "list") (B_range:Gb mg "range") (B_len:Gb mg "len") (CL_Counter:Cls K (gA K "Counter")) (NA_Counter_breaks:NoAttr K (gA K "Counter") "breaks") (NA_Counter_sums:NoAttr K (gA K "Counter") "sums") (NA_Counter_board:NoAttr K (gA K "Counter") "board") (NA_Counter_levels:NoAttr K (gA K "Counter") "levels") (NA_Counter_before:NoAttr K (gA K "Counter") "before") (NA_Counter_run_over:NoAttr K (gA K "Counter") "run_over") {f:Addr}{fd:FuncData}(F:Fun K "__init__" "Counter.__init__" zG_ f fd) (len:∀ vs H Q E,zD_ K vs H Q E→vs.length=5)
  (rd:∀ vs H Q E,zD_ K vs H Q E→zaw_ K { nx:=fun _ H'=>Q .non H',rt:=Q } (start Qn5 vs) H):FnOk P w K mg base CX0 4 f fd Qn5 (zD_ K):=by
 refine F.ok zd5_ len (fun cdv A outer s H vs Q E hr h=>⟨_,zdZ_ G_Wheel___init__ B_list B_range B_len CL_Counter NA_Counter_breaks NA_Counter_sums NA_Counter_board NA_Counter_levels NA_Counter_before NA_Counter_run_over hr,rd vs H Q E h⟩)
theorem zbI_:FnScope Qn8 Qn10 (defScope zaA_):=⟨rfl,rfl,rfl,by decide +kernel,rfl,by decide +kernel,by decide +kernel⟩
theorem zg7_ (B_range:Gb mg "range") {cdv:Value}{A:Around}{outer:List Env}{s:Shared}{H:Hp}{E:XK}{f:Addr}(hr:Room 0 (A.deeper (envOfC "_law_stream" (defScope zaA_) s.heap.objs.size f cdv))) :
  (PSs (cxOf CX0 P w K mg base Qn8 "_law_stream" (defScope zaA_) f cdv A outer s H E).nox (defBody zaA_) (zbX_ K)) := 
 (ze_ (zag_ (i:=2) zbI_.nd rfl (by first | exact Or.inl rfl | exact Or.inr rfl) (zcS_ zk_)) (ze_ (zag_ (i:=3) zbI_.nd rfl (by first | exact Or.inl rfl | exact Or.inr rfl) (zaP_ zas_ (zaP_ zbb_ (za_ 0) zo_) zo_)) (ze_ (zc1_ PassesOwn.never rfl (zel_ B_range (zc_ (za_ 1) zk_)) (zW_ (i:=4) zbI_.nd rfl (by first | exact Or.inl rfl | exact Or.inr rfl)) (ze_ (zag_ (i:=3) zbI_.nd rfl (by first | exact Or.inl rfl | exact Or.inr rfl) (zaP_ zbb_ (zaP_ zas_ (zaP_ zas_ (zaP_ ze2_ (za_ 3) (za_ 3)) (zaP_ ze2_ zo_ (za_ 3))) (za_ 4)) zo_)) (zp_ (zb5_ (zk0_ PySem.F.plainAttrs_list PySem.F.slot_list_append PySem.F.type_list_append zcv_ (za_ 2) (zc_ (za_ 3) zk_)))))) (zp_ (zaS_ (za_ 2))))))
theorem zgs_ (B_range:Gb mg "range") {f:Addr}{fd:FuncData}(F:Fun K "_law_stream" "_law_stream" zaA_ f fd) (len:∀ vs H Q E,zw_ K vs H Q E→vs.length=2)
  (rd:∀ vs H Q E,zw_ K vs H Q E→zbX_ K { nx:=fun _ H'=>Q .non H',rt:=Q } (start Qn8 vs) H):FnOk P w K mg base CX0 1 f fd Qn10 (zw_ K):=by
 refine F.ok zbI_ len (fun cdv A outer s H vs Q E hr h=>⟨_,zg7_ B_range hr,rd vs H Q E h⟩)
theorem zhx_:FnScope Qn22 Qn22 (defScope za9_):=⟨rfl,rfl,rfl,by decide +kernel,rfl,by decide +kernel,by decide +kernel⟩
theorem zhd_ (G_law_stream:Gd P w K mg base CX0 1 "_law_stream" Qn10 (zw_ K)) {cdv:Value}{A:Around}{outer:List Env}{s:Shared}{H:Hp}{E:XK}{f:Addr}(hr:Room 1 (A.deeper (envOfC "_law_kinds" (defScope za9_) s.heap.objs.size f cdv))) :
  (PSs (cxOf CX0 P w K mg base Qn22 "_law_kinds" (defScope za9_) f cdv A outer s H E).nox (defBody za9_) (zcf_ K)) := 
 (zp_ (zaS_ (zfl_ (cl:=[]) (lv:=["_law_number_here"]) (fr:=[]) rfl ⟨rfl,by decide +kernel,rfl,by decide +kernel,(by intro q hq; cases hq)⟩ (zdG_ (zQ_ G_law_stream (hr.mono (j:=1) (by decide)) (zc_ (za_ 0) (zc_ zo_ zk_)))) (fun _ _ _ _=>(zW_ (i:=0) (show List.Nodup (["_law_number_here"]:List Str) from by decide +kernel) rfl (Or.inl rfl))) (fun _ _ _ _=>zdi_) (fun _ _ _ _=>(zaP_ zdT_ (za_ 0) zo_)))))
theorem zhy_ (G_law_stream:Gd P w K mg base CX0 1 "_law_stream" Qn10 (zw_ K)) {f:Addr}{fd:FuncData}(F:Fun K "_law_kinds" "_law_kinds" za9_ f fd) (len:∀ vs H Q E,zaK_ K vs H Q E→vs.length=1)
  (rd:∀ vs H Q E,zaK_ K vs H Q E→zcf_ K { nx:=fun _ H'=>Q .non H',rt:=Q } (start Qn22 vs) H):FnOk P w K mg base CX0 2 f fd Qn22 (zaK_ K):=by
 refine F.ok zhx_ len (fun cdv A outer s H vs Q E hr h=>⟨_,zhd_ G_law_stream hr,rd vs H Q E h⟩)
theorem zcK_:FnScope Qn12 Qn22 (defScope za7_):=⟨rfl,rfl,rfl,by decide +kernel,rfl,by decide +kernel,by decide +kernel⟩
theorem zhG_ (G_law_stream:Gd P w K mg base CX0 1 "_law_stream" Qn10 (zw_ K)) (B_range:Gb mg "range") {cdv:Value}{A:Around}{outer:List Env}{s:Shared}{H:Hp}{E:XK}{f:Addr}(hr:Room 1 (A.deeper (envOfC "_law_board" (defScope za7_) s.heap.objs.size f cdv))) :
  (PSs (cxOf CX0 P w K mg base Qn12 "_law_board" (defScope za7_) f cdv A outer s H E).nox (defBody za7_) (zci_ K)) := 
 (ze_ (zag_ (i:=1) zcK_.nd rfl (by first | exact Or.inl rfl | exact Or.inr rfl) (zcS_ zk_)) (ze_ (zag_ (i:=2) zcK_.nd rfl (by first | exact Or.inl rfl | exact Or.inr rfl) (zQ_ G_law_stream (hr.mono (j:=1) (by decide)) (zc_ (za_ 0) (zc_ zo_ zk_)))) (ze_ (zc1_ PassesOwn.never rfl (zka_ B_range (zc_ zo_ (zc_ zo_ zk_))) (zW_ (i:=3) zcK_.nd rfl (by first | exact Or.inl rfl | exact Or.inr rfl)) (zp_ (zeh_ (zc4_ (zoD_ hr.u60) (zaP_ zbb_ (zaP_ zdT_ (zdk_ ix_M (za_ 2) (zaP_ zdF_ (za_ 3) zo_) (fun _ _=>rfl)) zo_) zo_) (zaP_ zbb_ (za_ 0) zo_)) (zp_ (zb5_ (zk0_ PySem.F.plainAttrs_list PySem.F.slot_list_append PySem.F.type_list_append zcv_ (za_ 1) (zc_ (znW_ (zc_ (zaP_ zas_ zo_ (zaP_ zbb_ (zaP_ zdT_ (zdk_ ix_M (za_ 2) (zaP_ zdF_ (za_ 3) zo_) (fun _ _=>rfl)) zo_) zo_)) (zc_ (za_ 3) zk_))) zk_)))) zcg_))) (zp_ (zaS_ (za_ 1))))))
theorem zhC_ (G_law_stream:Gd P w K mg base CX0 1 "_law_stream" Qn10 (zw_ K)) (B_range:Gb mg "range") {f:Addr}{fd:FuncData}(F:Fun K "_law_board" "_law_board" za7_ f fd) (len:∀ vs H Q E,zaC_ K vs H Q E→vs.length=1)
  (rd:∀ vs H Q E,zaC_ K vs H Q E→zci_ K { nx:=fun _ H'=>Q .non H',rt:=Q } (start Qn12 vs) H):FnOk P w K mg base CX0 2 f fd Qn22 (zaC_ K):=by
 refine F.ok zcK_ len (fun cdv A outer s H vs Q E hr h=>⟨_,zhG_ G_law_stream B_range hr,rd vs H Q E h⟩)
theorem zfm_:FnScope Qn4 Qn4 (defScope zZ_):=⟨rfl,rfl,rfl,by decide +kernel,rfl,by decide +kernel,by decide +kernel⟩
theorem zfx_ (B_sorted:Gb mg "sorted") (CL_Counter:Cls K (gA K "Counter")) (NA_Counter_run_over:NoAttr K (gA K "Counter") "run_over") {cdv:Value}{A:Around}{outer:List Env}{s:Shared}{H:Hp}{E:XK}{f:Addr}(hr:Room 0 (A.deeper (envOfC "Counter.overs" (defScope zZ_) s.heap.objs.size f cdv))) :
  (PSs (cxOf CX0 P w K mg base Qn4 "Counter.overs" (defScope zZ_) f cdv A outer s H E).nox (defBody zZ_) (zbi_ K)) := 
 (zp_ (zaS_ (zjN_ (zhV_ rfl) B_sorted (zc_ (zaO_ CL_Counter NA_Counter_run_over (za_ 0)) zk_))))
theorem ze6_ (B_sorted:Gb mg "sorted") (CL_Counter:Cls K (gA K "Counter")) (NA_Counter_run_over:NoAttr K (gA K "Counter") "run_over") {f:Addr}{fd:FuncData}(F:Fun K "overs" "Counter.overs" zZ_ f fd) (len:∀ vs H Q E,zE_ K vs H Q E→vs.length=1)
  (rd:∀ vs H Q E,zE_ K vs H Q E→zbi_ K { nx:=fun _ H'=>Q .non H',rt:=Q } (start Qn4 vs) H):FnOk P w K mg base CX0 1 f fd Qn4 (zE_ K):=by
 refine F.ok zfm_ len (fun cdv A outer s H vs Q E hr h=>⟨_,zfx_ B_sorted CL_Counter NA_Counter_run_over hr,rd vs H Q E h⟩)
theorem zgl_:FnScope Qn14 Qn14 (defScope zal_):=⟨rfl,rfl,rfl,by decide +kernel,rfl,by decide +kernel,by decide +kernel⟩
theorem zf6_ (B_len:Gb mg "len") {cdv:Value}{A:Around}{outer:List Env}{s:Shared}{H:Hp}{E:XK}{f:Addr}(hr:Room 0 (A.deeper (envOfC "_law_cell_at" (defScope zal_) s.heap.objs.size f cdv))) :
  (PSs (cxOf CX0 P w K mg base Qn14 "_law_cell_at" (defScope zal_) f cdv A outer s H E).nox (defBody zal_) (zbG_ K)) := 
 (ze_ (zeh_ (zc4_ (zoD_ hr.u60) (za_ 1) (zjN_ zdu_ B_len (zc_ (za_ 0) zk_))) (zp_ (zaS_ (zdk_ ix_M (za_ 0) (za_ 1) (fun _ _=>rfl)))) zcg_) (zp_ (zaS_ zo_)))
theorem zf3_ (B_len:Gb mg "len") {f:Addr}{fd:FuncData}(F:Fun K "_law_cell_at" "_law_cell_at" zal_ f fd) (len:∀ vs H Q E,zH_ K vs H Q E→vs.length=2)
  (rd:∀ vs H Q E,zH_ K vs H Q E→zbG_ K { nx:=fun _ H'=>Q .non H',rt:=Q } (start Qn14 vs) H):FnOk P w K mg base CX0 1 f fd Qn14 (zH_ K):=by
 refine F.ok zgl_ len (fun cdv A outer s H vs Q E hr h=>⟨_,zf6_ B_len hr,rd vs H Q E h⟩)
theorem zfd_:FnScope Qn17 Qn18 (defScope za5_):=⟨rfl,rfl,rfl,by decide +kernel,rfl,by decide +kernel,by decide +kernel⟩
theorem zhB_ (B_min:Gb mg "min") {cdv:Value}{A:Around}{outer:List Env}{s:Shared}{H:Hp}{E:XK}{f:Addr}(hr:Room 0 (A.deeper (envOfC "_law_field" (defScope za5_) s.heap.objs.size f cdv))) :
  (PSs (cxOf CX0 P w K mg base Qn17 "_law_field" (defScope za5_) f cdv A outer s H E).nox (defBody za5_) (zcr_ K)) := 
 (ze_ (zag_ (i:=2) zfd_.nd rfl (by first | exact Or.inl rfl | exact Or.inr rfl) (zaP_ zas_ zo_ (zaP_ zbb_ (zaP_ zdT_ (za_ 0) zo_) zo_))) (zp_ (zaS_ (znW_ (zc_ (za_ 2) (zc_ (zjN_ (zle_ rfl) B_min (zc_ zo_ (zc_ (zaP_ zas_ (za_ 2) (zaP_ zbb_ (zaP_ zdT_ (za_ 0) zo_) (za_ 1))) zk_))) zk_))))))
theorem zhz_ (B_min:Gb mg "min") {f:Addr}{fd:FuncData}(F:Fun K "_law_field" "_law_field" za5_ f fd) (len:∀ vs H Q E,zaJ_ K vs H Q E→vs.length=2)
  (rd:∀ vs H Q E,zaJ_ K vs H Q E→zcr_ K { nx:=fun _ H'=>Q .non H',rt:=Q } (start Qn17 vs) H):FnOk P w K mg base CX0 1 f fd Qn18 (zaJ_ K):=by
 refine F.ok zfd_ len (fun cdv A outer s H vs Q E hr h=>⟨_,zhB_ B_min hr,rd vs H Q E h⟩)
theorem zax_:FnScope Qn2 Qn15 (defScope zbp_):=⟨rfl,rfl,rfl,by decide +kernel,rfl,by decide +kernel,by decide +kernel⟩
theorem ziB_ (G_law_stream:Gd P w K mg base CX0 1 "_law_stream" Qn10 (zw_ K)) (B_range:Gb mg "range") {cdv:Value}{A:Around}{outer:List Env}{s:Shared}{H:Hp}{E:XK}{f:Addr}(hr:Room 1 (A.deeper (envOfC "_law_card" (defScope zbp_) s.heap.objs.size f cdv))) :
  (PSs (cxOf CX0 P w K mg base Qn2 "_law_card" (defScope zbp_) f cdv A outer s H E).nox (defBody zbp_) (zdj_ K)) := 
 (ze_ (zag_ (i:=3) zax_.nd rfl (by first | exact Or.inl rfl | exact Or.inr rfl) (zdA_ (l:=SG))) (ze_ (zag_ (i:=4) zax_.nd rfl (by first | exact Or.inl rfl | exact Or.inr rfl) (zQ_ G_law_stream (hr.mono (j:=1) (by decide)) (zc_ (za_ 0) (zc_ zo_ zk_)))) (ze_ (zag_ (i:=5) zax_.nd rfl (by first | exact Or.inl rfl | exact Or.inr rfl) (zdA_ (l:=[]))) (ze_ (zc1_ PassesOwn.never rfl (zel_ B_range (zc_ zo_ zk_)) (zW_ (i:=6) zax_.nd rfl (by first | exact Or.inl rfl | exact Or.inr rfl)) (ze_ (zag_ (i:=7) zax_.nd rfl (by first | exact Or.inl rfl | exact Or.inr rfl) (zaP_ zdT_ (zdk_ ix_M (za_ 4) (za_ 6) (fun _ _=>rfl)) zo_)) (ze_ (zag_ (i:=8) zax_.nd rfl (by first | exact Or.inl rfl | exact Or.inr rfl) (zaP_ zdT_ (zdk_ ix_M (za_ 2) (za_ 6) (fun _ _=>rfl)) zo_)) (ze_ (zag_ (i:=9) zax_.nd rfl (by first | exact Or.inl rfl | exact Or.inr rfl) (zaP_ zas_ (za_ 8) (zaP_ zbb_ (za_ 7) zo_))) (ze_ (zag_ (i:=10) zax_.nd rfl (by first | exact Or.inl rfl | exact Or.inr rfl) (zcS_ (zc_ (zaP_ zas_ zo_ (zaP_ zbb_ (za_ 8) zo_)) (zc_ (zaP_ zas_ zo_ (zaP_ zbb_ (za_ 7) zo_)) (zc_ (zaP_ zbb_ (za_ 9) zo_) (zc_ (zaP_ zbb_ (za_ 7) zo_) (zc_ (zaP_ zas_ zo_ (zaP_ zbb_ (za_ 9) zo_)) zk_))))))) (zp_ (zag_ (i:=5) zax_.nd rfl (by first | exact Or.inl rfl | exact Or.inr rfl) (zaP_ zas_ (za_ 5) (zdk_ ix_M (za_ 3) (zdk_ ix_M (za_ 10) (zaP_ zbb_ (zdk_ ix_M (za_ 2) (za_ 6) (fun _ _=>rfl)) zo_) (fun _ _=>rfl)) (fun _ _=>rfl)))))))))) (ze_ (zag_ (i:=11) zax_.nd rfl (by first | exact Or.inl rfl | exact Or.inr rfl) (zaP_ zas_ (zaP_ zas_ (zdk_ ix_M (za_ 3) (zaP_ zbb_ (za_ 0) zo_) (fun _ _=>rfl)) (zdk_ ix_M (za_ 3) (zaP_ zbb_ (za_ 1) zo_) (fun _ _=>rfl))) (zdk_ ix_M (za_ 3) (zaP_ zbb_ (zdk_ ix_M (za_ 4) zo_ (fun _ _=>rfl)) zo_) (fun _ _=>rfl)))) (zp_ (zaS_ (zaP_ zas_ (zaP_ zas_ (za_ 5) (za_ 11)) (zdk_ ix_M (za_ 3) (zaP_ zbb_ (zaP_ zdT_ (za_ 0) zo_) zo_) (fun _ _=>rfl))))))))))
theorem ziK_ (G_law_stream:Gd P w K mg base CX0 1 "_law_stream" Qn10 (zw_ K)) (B_range:Gb mg "range") {f:Addr}{fd:FuncData}(F:Fun K "_law_card" "_law_card" zbp_ f fd) (len:∀ vs H Q E,za2_ K vs H Q E→vs.length=3)
  (rd:∀ vs H Q E,za2_ K vs H Q E→zdj_ K { nx:=fun _ H'=>Q .non H',rt:=Q } (start Qn2 vs) H):FnOk P w K mg base CX0 2 f fd Qn15 (za2_ K):=by
 refine F.ok zax_ len (fun cdv A outer s H vs Q E hr h=>⟨_,ziB_ G_law_stream B_range hr,rd vs H Q E h⟩)
theorem zex_:FnScope ["self", "value", "risen"] ["self", "value"] (defScope zaD_):=⟨rfl,rfl,rfl,by decide +kernel,rfl,by decide +kernel,by decide +kernel⟩
theorem zgt_ (CL_Wheel:Cls K (gA K "Wheel")) (NA_Wheel_kept:NoAttr K (gA K "Wheel") "kept") (NA_Wheel_power:NoAttr K (gA K "Wheel") "power") (NA_Wheel_over:NoAttr K (gA K "Wheel") "over") {cdv:Value}{A:Around}{outer:List Env}{s:Shared}{H:Hp}{E:XK}{f:Addr}(hr:Room 0 (A.deeper (envOfC "Wheel.rise" (defScope zaD_) s.heap.objs.size f cdv))) :
  (PSs (cxOf CX0 P w K mg base ["self", "value", "risen"] "Wheel.rise" (defScope zaD_) f cdv A outer s H E).nox (defBody zaD_) (zbW_ K)) := 
 (ze_ (zag_ (i:=2) zex_.nd rfl (by first | exact Or.inl rfl | exact Or.inr rfl) (zaP_ zas_ (zaO_ CL_Wheel NA_Wheel_kept (za_ 0)) (za_ 1))) (ze_ (zeh_ (zc4_ zpD_ (za_ 2) (zaO_ CL_Wheel NA_Wheel_power (za_ 0))) (zp_ (zb3_ CL_Wheel NA_Wheel_over (za_ 0) zkP_)) zcg_) (zp_ (zb3_ CL_Wheel NA_Wheel_kept (za_ 0) (zaP_ zbb_ (za_ 2) (zaO_ CL_Wheel NA_Wheel_power (za_ 0)))))))
theorem zgT_ (CL_Wheel:Cls K (gA K "Wheel")) (NA_Wheel_kept:NoAttr K (gA K "Wheel") "kept") (NA_Wheel_power:NoAttr K (gA K "Wheel") "power") (NA_Wheel_over:NoAttr K (gA K "Wheel") "over") {f:Addr}{fd:FuncData}(F:Fun K "rise" "Wheel.rise" zaD_ f fd) (len:∀ vs H Q E,zao_ K vs H Q E→vs.length=2)
  (rd:∀ vs H Q E,zao_ K vs H Q E→zbW_ K { nx:=fun _ H'=>Q .non H',rt:=Q } (start ["self", "value", "risen"] vs) H):FnOk P w K mg base CX0 1 f fd ["self", "value"] (zao_ K):=by
 refine F.ok zex_ len (fun cdv A outer s H vs Q E hr h=>⟨_,zgt_ CL_Wheel NA_Wheel_kept NA_Wheel_power NA_Wheel_over hr,rd vs H Q E h⟩)
theorem zeD_:FnScope Qn4 Qn4 (defScope zO_):=⟨rfl,rfl,rfl,by decide +kernel,rfl,by decide +kernel,by decide +kernel⟩
theorem zeI_ (CL_Wheel:Cls K (gA K "Wheel")) (NA_Wheel_over:NoAttr K (gA K "Wheel") "over") {cdv:Value}{A:Around}{outer:List Env}{s:Shared}{H:Hp}{E:XK}{f:Addr}(hr:Room 0 (A.deeper (envOfC "Wheel.ran_over" (defScope zO_) s.heap.objs.size f cdv))) :
  (PSs (cxOf CX0 P w K mg base Qn4 "Wheel.ran_over" (defScope zO_) f cdv A outer s H E).nox (defBody zO_) (zaV_ K)) := 
 (zp_ (zaS_ (zaO_ CL_Wheel NA_Wheel_over (za_ 0))))
theorem zey_ (CL_Wheel:Cls K (gA K "Wheel")) (NA_Wheel_over:NoAttr K (gA K "Wheel") "over") {f:Addr}{fd:FuncData}(F:Fun K "ran_over" "Wheel.ran_over" zO_ f fd) (len:∀ vs H Q E,zJ_ K vs H Q E→vs.length=1)
  (rd:∀ vs H Q E,zJ_ K vs H Q E→zaV_ K { nx:=fun _ H'=>Q .non H',rt:=Q } (start Qn4 vs) H):FnOk P w K mg base CX0 1 f fd Qn4 (zJ_ K):=by
 refine F.ok zeD_ len (fun cdv A outer s H vs Q E hr h=>⟨_,zeI_ CL_Wheel NA_Wheel_over hr,rd vs H Q E h⟩)
theorem zan_:FnScope Qn13 Qn19 (defScope zy_):=⟨rfl,rfl,rfl,by decide +kernel,rfl,by decide +kernel,by decide +kernel⟩
theorem zc8_ (G_Wheel_rise:Gm P w K mg base CX0 1 (gA K "Wheel") "rise" ["self", "value"] (zao_ K)) (G_Wheel_ran_over:Gm P w K mg base CX0 1 (gA K "Wheel") "ran_over" Qn4 (zJ_ K)) (B_enumerate:Gb mg "enumerate") (CL_Counter:Cls K (gA K "Counter")) (NA_Counter_levels:NoAttr K (gA K "Counter") "levels") (NA_Counter_run_over:NoAttr K (gA K "Counter") "run_over") {cdv:Value}{A:Around}{outer:List Env}{s:Shared}{H:Hp}{E:XK}{f:Addr}(hr:Room 1 (A.deeper (envOfC "Counter.raise_level" (defScope zy_) s.heap.objs.size f cdv))) :
  (PSs (cxOf CX0 P w K mg base Qn13 "Counter.raise_level" (defScope zy_) f cdv A outer s H E).nox (defBody zy_) (zaa_ K)) := 
 (zp_ (zc1_ PassesOwn.never rfl (zks_ B_enumerate (zc_ (za_ 2) zk_)) (zg8_ (n:=2) rfl (zbE_ (zW_ (i:=3) zan_.nd rfl (by first | exact Or.inl rfl | exact Or.inr rfl)) (zbE_ (zW_ (i:=4) zan_.nd rfl (by first | exact Or.inl rfl | exact Or.inr rfl)) zfp_))) (ze_ (zag_ (i:=5) zan_.nd rfl (by first | exact Or.inl rfl | exact Or.inr rfl) (zdk_ ix_M (zdk_ ix_M (zaO_ CL_Counter NA_Counter_levels (za_ 0)) (za_ 1) (fun _ _=>rfl)) (za_ 3) (fun _ _=>rfl))) (ze_ (zb5_ (zcd_ G_Wheel_rise (hr.mono (j:=1) (by decide)) (za_ 5) (zc_ (za_ 4) zk_))) (zp_ (zeh_ (zik_ (zcM_ G_Wheel_ran_over (hr.mono (j:=1) (by decide)) (za_ 5))) (zp_ (zjO_ hr.u60 (zaO_ CL_Counter NA_Counter_run_over (za_ 0)) (za_ 3) zkP_)) zcg_))))))
theorem zc3_ (G_Wheel_rise:Gm P w K mg base CX0 1 (gA K "Wheel") "rise" ["self", "value"] (zao_ K)) (G_Wheel_ran_over:Gm P w K mg base CX0 1 (gA K "Wheel") "ran_over" Qn4 (zJ_ K)) (B_enumerate:Gb mg "enumerate") (CL_Counter:Cls K (gA K "Counter")) (NA_Counter_levels:NoAttr K (gA K "Counter") "levels") (NA_Counter_run_over:NoAttr K (gA K "Counter") "run_over") {f:Addr}{fd:FuncData}(F:Fun K "raise_level" "Counter.raise_level" zy_ f fd) (len:∀ vs H Q E,zi_ K vs H Q E→vs.length=3)
  (rd:∀ vs H Q E,zi_ K vs H Q E→zaa_ K { nx:=fun _ H'=>Q .non H',rt:=Q } (start Qn13 vs) H):FnOk P w K mg base CX0 2 f fd Qn19 (zi_ K):=by
 refine F.ok zan_ len (fun cdv A outer s H vs Q E hr h=>⟨_,zc8_ G_Wheel_rise G_Wheel_ran_over B_enumerate CL_Counter NA_Counter_levels NA_Counter_run_over hr,rd vs H Q E h⟩)
theorem zgn_:FnScope Qn4 Qn4 (defScope zam_):=⟨rfl,rfl,rfl,by decide +kernel,rfl,by decide +kernel,by decide +kernel⟩
theorem zgc_ (B_str:Gb mg "str") (CL_Wheel:Cls K (gA K "Wheel")) (NA_Wheel_kept:NoAttr K (gA K "Wheel") "kept") (NA_Wheel_figures:NoAttr K (gA K "Wheel") "figures") {cdv:Value}{A:Around}{outer:List Env}{s:Shared}{H:Hp}{E:XK}{f:Addr}(hr:Room 0 (A.deeper (envOfC "Wheel.shown" (defScope zam_) s.heap.objs.size f cdv))) :
  (PSs (cxOf CX0 P w K mg base Qn4 "Wheel.shown" (defScope zam_) f cdv A outer s H E).nox (defBody zam_) (zbJ_ K)) := 
 (zp_ (zaS_ (znD_ PySem.F.slot_str_zfill PySem.F.type_str_zfill zmq_ (znH_ "str" zlm_ B_str (zc_ (zaO_ CL_Wheel NA_Wheel_kept (za_ 0)) zk_)) (zc_ (zaO_ CL_Wheel NA_Wheel_figures (za_ 0)) zk_))))
theorem zf7_ (B_str:Gb mg "str") (CL_Wheel:Cls K (gA K "Wheel")) (NA_Wheel_kept:NoAttr K (gA K "Wheel") "kept") (NA_Wheel_figures:NoAttr K (gA K "Wheel") "figures") {f:Addr}{fd:FuncData}(F:Fun K "shown" "Wheel.shown" zam_ f fd) (len:∀ vs H Q E,zaf_ K vs H Q E→vs.length=1)
  (rd:∀ vs H Q E,zaf_ K vs H Q E→zbJ_ K { nx:=fun _ H'=>Q .non H',rt:=Q } (start Qn4 vs) H):FnOk P w K mg base CX0 1 f fd Qn4 (zaf_ K):=by
 refine F.ok zgn_ len (fun cdv A outer s H vs Q E hr h=>⟨_,zgc_ B_str CL_Wheel NA_Wheel_kept NA_Wheel_figures hr,rd vs H Q E h⟩)
theorem zjB_:FnScope Qn7 Qn7 (defScope zbR_):=⟨rfl,rfl,rfl,by decide +kernel,rfl,by decide +kernel,by decide +kernel⟩
theorem zjK_  {cdv:Value}{A:Around}{outer:List Env}{s:Shared}{H:Hp}{E:XK}{f:Addr}(hr:Room 0 (A.deeper (envOfC "part_of" (defScope zbR_) s.heap.objs.size f cdv))) :
  (PSs (cxOf CX0 P w K mg base Qn7 "part_of" (defScope zbR_) f cdv A outer s H E).nox (defBody zbR_) (zeb_ K)) := 
 (zp_ (zaS_ (zek_ sl_M (za_ 0) (po_M (zaP_ zdF_ (zdk_ ix_M (za_ 1) zo_ (fun _ _=>rfl)) zo_)) (po_M (zdk_ ix_M (za_ 1) zo_ (fun _ _=>rfl))))))
theorem zi6_  {f:Addr}{fd:FuncData}(F:Fun K "part_of" "part_of" zbR_ f fd) (len:∀ vs H Q E,z8_ K vs H Q E→vs.length=2)
  (rd:∀ vs H Q E,z8_ K vs H Q E→zeb_ K { nx:=fun _ H'=>Q .non H',rt:=Q } (start Qn7 vs) H):FnOk P w K mg base CX0 1 f fd Qn7 (z8_ K):=by
 refine F.ok zjB_ len (fun cdv A outer s H vs Q E hr h=>⟨_,zjK_  hr,rd vs H Q E h⟩)
theorem zbM_:FnScope ["self", "level", "words"] Qn16 (defScope zC_):=⟨rfl,rfl,rfl,by decide +kernel,rfl,by decide +kernel,by decide +kernel⟩
theorem zdw_ (G_part_of:Gd P w K mg base CX0 1 "part_of" Qn7 (z8_ K)) (G_Wheel_shown:Gm P w K mg base CX0 1 (gA K "Wheel") "shown" Qn4 (zaf_ K)) (B_len:Gb mg "len") (CL_Counter:Cls K (gA K "Counter")) (NA_Counter_breaks:NoAttr K (gA K "Counter") "breaks") (NA_Counter_before:NoAttr K (gA K "Counter") "before") (NA_Counter_levels:NoAttr K (gA K "Counter") "levels") {cdv:Value}{A:Around}{outer:List Env}{s:Shared}{H:Hp}{E:XK}{f:Addr}(hr:Room 1 (A.deeper (envOfC "Counter.total_line" (defScope zC_) s.heap.objs.size f cdv))) :
  (PSs (cxOf CX0 P w K mg base ["self", "level", "words"] "Counter.total_line" (defScope zC_) f cdv A outer s H E).nox (defBody zC_) (zai_ K)) := 
 (ze_ (zag_ (i:=2) zbM_.nd rfl (by first | exact Or.inl rfl | exact Or.inr rfl) (zcS_ (zc_ (zaP_ ze2_ (zdA_ (l:=[42])) (zaP_ zdF_ (zaP_ zas_ zo_ (zjN_ zdu_ B_len (zc_ (zaO_ CL_Counter NA_Counter_breaks (za_ 0)) zk_))) (za_ 1))) zk_))) (ze_ (zb5_ (zk0_ PySem.F.plainAttrs_list PySem.F.slot_list_extend PySem.F.type_list_extend zh9_ (za_ 2) (zc_ (zfl_ (cl:=_) (lv:=["field"]) (fr:=[("self",0)]) rfl ⟨rfl,by decide +kernel,rfl,by decide +kernel,(zfi_ (by refine ⟨rfl,by decide +kernel,?_,?_⟩<;>first | exact Or.inl rfl | exact Or.inr rfl) zix_)⟩ (zdG_ (zek_ sl_M (zaO_ CL_Counter NA_Counter_breaks (za_ 0)) zkg_ (po_M (za_ 1)))) (fun _ _ _ _=>(zW_ (i:=0) (show List.Nodup (["field", "self"]:List Str) from by decide +kernel) rfl (Or.inl rfl))) (fun _ _ _ _=>zdi_) (fun _ _ _ _=>(zQ_ G_part_of (hr.mono (j:=1) (by decide)) (zc_ (zaO_ CL_Counter NA_Counter_before (za_ 1)) (zc_ (za_ 0) zk_))))) zk_))) (ze_ (zb5_ (zk0_ PySem.F.plainAttrs_list PySem.F.slot_list_extend PySem.F.type_list_extend zh9_ (za_ 2) (zc_ (zfl_ (cl:=[]) (lv:=["wheel"]) (fr:=[]) rfl ⟨rfl,by decide +kernel,rfl,by decide +kernel,(by intro q hq; cases hq)⟩ (zdG_ (zdk_ ix_M (zaO_ CL_Counter NA_Counter_levels (za_ 0)) (za_ 1) (fun _ _=>rfl))) (fun _ _ _ _=>(zW_ (i:=0) (show List.Nodup (["wheel"]:List Str) from by decide +kernel) rfl (Or.inl rfl))) (fun _ _ _ _=>zdi_) (fun _ _ _ _=>(zcM_ G_Wheel_shown (hr.mono (j:=1) (by decide)) (za_ 0)))) zk_))) (zp_ (zaS_ (znD_ PySem.F.slot_str_join PySem.F.type_str_join zj3_ (zdA_ (l:=[32])) (zc_ (za_ 2) zk_)))))))
theorem zdy_ (G_part_of:Gd P w K mg base CX0 1 "part_of" Qn7 (z8_ K)) (G_Wheel_shown:Gm P w K mg base CX0 1 (gA K "Wheel") "shown" Qn4 (zaf_ K)) (B_len:Gb mg "len") (CL_Counter:Cls K (gA K "Counter")) (NA_Counter_breaks:NoAttr K (gA K "Counter") "breaks") (NA_Counter_before:NoAttr K (gA K "Counter") "before") (NA_Counter_levels:NoAttr K (gA K "Counter") "levels") {f:Addr}{fd:FuncData}(F:Fun K "total_line" "Counter.total_line" zC_ f fd) (len:∀ vs H Q E,zz_ K vs H Q E→vs.length=2)
  (rd:∀ vs H Q E,zz_ K vs H Q E→zai_ K { nx:=fun _ H'=>Q .non H',rt:=Q } (start ["self", "level", "words"] vs) H):FnOk P w K mg base CX0 2 f fd Qn16 (zz_ K):=by
 refine F.ok zbM_ len (fun cdv A outer s H vs Q E hr h=>⟨_,zdw_ G_part_of G_Wheel_shown B_len CL_Counter NA_Counter_breaks NA_Counter_before NA_Counter_levels hr,rd vs H Q E h⟩)
theorem zf4_:FnScope Qn4 Qn4 (defScope zap_):=⟨rfl,rfl,rfl,by decide +kernel,rfl,by decide +kernel,by decide +kernel⟩
theorem zf8_ (CL_Wheel:Cls K (gA K "Wheel")) (NA_Wheel_kept:NoAttr K (gA K "Wheel") "kept") (NA_Wheel_over:NoAttr K (gA K "Wheel") "over") {cdv:Value}{A:Around}{outer:List Env}{s:Shared}{H:Hp}{E:XK}{f:Addr}(hr:Room 0 (A.deeper (envOfC "Wheel.reset" (defScope zap_) s.heap.objs.size f cdv))) :
  (PSs (cxOf CX0 P w K mg base Qn4 "Wheel.reset" (defScope zap_) f cdv A outer s H E).nox (defBody zap_) (zbH_ K)) := 
 (ze_ (zb3_ CL_Wheel NA_Wheel_kept (za_ 0) zo_) (zp_ (zb3_ CL_Wheel NA_Wheel_over (za_ 0) zkP_)))
theorem zgj_ (CL_Wheel:Cls K (gA K "Wheel")) (NA_Wheel_kept:NoAttr K (gA K "Wheel") "kept") (NA_Wheel_over:NoAttr K (gA K "Wheel") "over") {f:Addr}{fd:FuncData}(F:Fun K "reset" "Wheel.reset" zap_ f fd) (len:∀ vs H Q E,zac_ K vs H Q E→vs.length=1)
  (rd:∀ vs H Q E,zac_ K vs H Q E→zbH_ K { nx:=fun _ H'=>Q .non H',rt:=Q } (start Qn4 vs) H):FnOk P w K mg base CX0 1 f fd Qn4 (zac_ K):=by
 refine F.ok zf4_ len (fun cdv A outer s H vs Q E hr h=>⟨_,zf8_ CL_Wheel NA_Wheel_kept NA_Wheel_over hr,rd vs H Q E h⟩)
theorem zfN_:FnScope Qn4 Qn4 (defScope zae_):=⟨rfl,rfl,rfl,by decide +kernel,rfl,by decide +kernel,by decide +kernel⟩
theorem zfF_ (CL_Wheel:Cls K (gA K "Wheel")) (NA_Wheel_kept:NoAttr K (gA K "Wheel") "kept") {cdv:Value}{A:Around}{outer:List Env}{s:Shared}{H:Hp}{E:XK}{f:Addr}(hr:Room 0 (A.deeper (envOfC "Wheel.amount" (defScope zae_) s.heap.objs.size f cdv))) :
  (PSs (cxOf CX0 P w K mg base Qn4 "Wheel.amount" (defScope zae_) f cdv A outer s H E).nox (defBody zae_) (zbr_ K)) := 
 (zp_ (zaS_ (zaO_ CL_Wheel NA_Wheel_kept (za_ 0))))
theorem zfK_ (CL_Wheel:Cls K (gA K "Wheel")) (NA_Wheel_kept:NoAttr K (gA K "Wheel") "kept") {f:Addr}{fd:FuncData}(F:Fun K "amount" "Wheel.amount" zae_ f fd) (len:∀ vs H Q E,z2_ K vs H Q E→vs.length=1)
  (rd:∀ vs H Q E,z2_ K vs H Q E→zbr_ K { nx:=fun _ H'=>Q .non H',rt:=Q } (start Qn4 vs) H):FnOk P w K mg base CX0 1 f fd Qn4 (z2_ K):=by
 refine F.ok zfN_ len (fun cdv A outer s H vs Q E hr h=>⟨_,zfF_ CL_Wheel NA_Wheel_kept hr,rd vs H Q E h⟩)
theorem zaU_:FnScope ["self", "level", "line", "wheel"] Qn16 (defScope zx_):=⟨rfl,rfl,rfl,by decide +kernel,rfl,by decide +kernel,by decide +kernel⟩
theorem zc5_ (G_Counter_total_line:Gm P w K mg base CX0 2 (gA K "Counter") "total_line" Qn16 (zz_ K)) (G_Counter_raise_level:Gm P w K mg base CX0 2 (gA K "Counter") "raise_level" Qn19 (zi_ K)) (G_Wheel_amount:Gm P w K mg base CX0 1 (gA K "Wheel") "amount" Qn4 (z2_ K)) (G_Wheel_reset:Gm P w K mg base CX0 1 (gA K "Wheel") "reset" Qn4 (zac_ K)) (CL_Counter:Cls K (gA K "Counter")) (NA_Counter_levels:NoAttr K (gA K "Counter") "levels") {cdv:Value}{A:Around}{outer:List Env}{s:Shared}{H:Hp}{E:XK}{f:Addr}(hr:Room 2 (A.deeper (envOfC "Counter.close_level" (defScope zx_) s.heap.objs.size f cdv))) :
  (PSs (cxOf CX0 P w K mg base ["self", "level", "line", "wheel"] "Counter.close_level" (defScope zx_) f cdv A outer s H E).nox (defBody zx_) (z7_ K)) := 
 (ze_ (zag_ (i:=2) zaU_.nd rfl (by first | exact Or.inl rfl | exact Or.inr rfl) (zcd_ G_Counter_total_line (hr.mono (j:=2) (by decide)) (za_ 0) (zc_ (za_ 1) zk_))) (ze_ (zeh_ (zc4_ zpy_ (za_ 1) zo_) (zp_ (zb5_ (zcd_ G_Counter_raise_level (hr.mono (j:=2) (by decide)) (za_ 0) (zc_ (zaP_ zdF_ (za_ 1) zo_) (zc_ (zfl_ (cl:=[]) (lv:=["wheel"]) (fr:=[]) rfl ⟨rfl,by decide +kernel,rfl,by decide +kernel,(by intro q hq; cases hq)⟩ (zdG_ (zdk_ ix_M (zaO_ CL_Counter NA_Counter_levels (za_ 0)) (za_ 1) (fun _ _=>rfl))) (fun _ _ _ _=>(zW_ (i:=0) (show List.Nodup (["wheel"]:List Str) from by decide +kernel) rfl (Or.inl rfl))) (fun _ _ _ _=>zdi_) (fun _ _ _ _=>(zcM_ G_Wheel_amount (hr.mono (j:=1) (by decide)) (za_ 0)))) zk_))))) zcg_) (ze_ (zc1_ PassesOwn.never rfl (zdG_ (zdk_ ix_M (zaO_ CL_Counter NA_Counter_levels (za_ 0)) (za_ 1) (fun _ _=>rfl))) (zW_ (i:=3) zaU_.nd rfl (by first | exact Or.inl rfl | exact Or.inr rfl)) (zp_ (zb5_ (zcM_ G_Wheel_reset (hr.mono (j:=1) (by decide)) (za_ 3))))) (zp_ (zaS_ (za_ 2))))))
theorem zc9_ (G_Counter_total_line:Gm P w K mg base CX0 2 (gA K "Counter") "total_line" Qn16 (zz_ K)) (G_Counter_raise_level:Gm P w K mg base CX0 2 (gA K "Counter") "raise_level" Qn19 (zi_ K)) (G_Wheel_amount:Gm P w K mg base CX0 1 (gA K "Wheel") "amount" Qn4 (z2_ K)) (G_Wheel_reset:Gm P w K mg base CX0 1 (gA K "Wheel") "reset" Qn4 (zac_ K)) (CL_Counter:Cls K (gA K "Counter")) (NA_Counter_levels:NoAttr K (gA K "Counter") "levels") {f:Addr}{fd:FuncData}(F:Fun K "close_level" "Counter.close_level" zx_ f fd) (len:∀ vs H Q E,zh_ K vs H Q E→vs.length=2)
  (rd:∀ vs H Q E,zh_ K vs H Q E→z7_ K { nx:=fun _ H'=>Q .non H',rt:=Q } (start ["self", "level", "line", "wheel"] vs) H):FnOk P w K mg base CX0 3 f fd Qn16 (zh_ K):=by
 refine F.ok zaU_ len (fun cdv A outer s H vs Q E hr h=>⟨_,zc5_ G_Counter_total_line G_Counter_raise_level G_Wheel_amount G_Wheel_reset CL_Counter NA_Counter_levels hr,rd vs H Q E h⟩)
theorem zaR_:FnScope Qn27 Qn30 (defScope zu_):=⟨rfl,rfl,rfl,by decide +kernel,rfl,by decide +kernel,by decide +kernel⟩
theorem zcY_ (G_Counter_close_level:Gm P w K mg base CX0 3 (gA K "Counter") "close_level" Qn16 (zh_ K)) (B_range:Gb mg "range") (B_len:Gb mg "len") (CL_Counter:Cls K (gA K "Counter")) (NA_Counter_breaks:NoAttr K (gA K "Counter") "breaks") {cdv:Value}{A:Around}{outer:List Env}{s:Shared}{H:Hp}{E:XK}{f:Addr}(hr:Room 3 (A.deeper (envOfC "Counter.close_levels" (defScope zu_) s.heap.objs.size f cdv))) :
  (PSs (cxOf CX0 P w K mg base Qn27 "Counter.close_levels" (defScope zu_) f cdv A outer s H E).nox (defBody zu_) (z6_ K)) := 
 (ze_ (zag_ (i:=2) zaR_.nd rfl (by first | exact Or.inl rfl | exact Or.inr rfl) (zcS_ zk_)) (ze_ (zc1_ PassesOwn.never rfl (zny_ B_range (zc_ (zjN_ zdu_ B_len (zc_ (zaO_ CL_Counter NA_Counter_breaks (za_ 0)) zk_)) (zc_ (zaP_ zdF_ (za_ 1) zo_) (zc_ (zp7_ zo_) zk_)))) (zW_ (i:=3) zaR_.nd rfl (by first | exact Or.inl rfl | exact Or.inr rfl)) (zp_ (zb5_ (zk0_ PySem.F.plainAttrs_list PySem.F.slot_list_append PySem.F.type_list_append zcv_ (za_ 2) (zc_ (zcd_ G_Counter_close_level (hr.mono (j:=3) (by decide)) (za_ 0) (zc_ (za_ 3) zk_)) zk_))))) (zp_ (zaS_ (za_ 2)))))
theorem zcX_ (G_Counter_close_level:Gm P w K mg base CX0 3 (gA K "Counter") "close_level" Qn16 (zh_ K)) (B_range:Gb mg "range") (B_len:Gb mg "len") (CL_Counter:Cls K (gA K "Counter")) (NA_Counter_breaks:NoAttr K (gA K "Counter") "breaks") {f:Addr}{fd:FuncData}(F:Fun K "close_levels" "Counter.close_levels" zu_ f fd) (len:∀ vs H Q E,zg_ K vs H Q E→vs.length=2)
  (rd:∀ vs H Q E,zg_ K vs H Q E→z6_ K { nx:=fun _ H'=>Q .non H',rt:=Q } (start Qn27 vs) H):FnOk P w K mg base CX0 4 f fd Qn30 (zg_ K):=by
 refine F.ok zaR_ len (fun cdv A outer s H vs Q E hr h=>⟨_,zcY_ G_Counter_close_level B_range B_len CL_Counter NA_Counter_breaks hr,rd vs H Q E h⟩)
theorem zjP_:FnScope ["card"] ["card"] (defScope zbU_):=⟨rfl,rfl,rfl,by decide +kernel,rfl,by decide +kernel,by decide +kernel⟩
theorem zkh_ (C_BODY_WIDTH:Gc mg "BODY_WIDTH" (.int 36)) {cdv:Value}{A:Around}{outer:List Env}{s:Shared}{H:Hp}{E:XK}{f:Addr}(hr:Room 0 (A.deeper (envOfC "mark_of" (defScope zbU_) s.heap.objs.size f cdv))) :
  (PSs (cxOf CX0 P w K mg base ["card"] "mark_of" (defScope zbU_) f cdv A outer s H E).nox (defBody zbU_) (zd7_ K)) := 
 (zp_ (zaS_ (zek_ sl_M (za_ 0) (po_M (zpe_ C_BODY_WIDTH)) zkg_)))
theorem zjf_ (C_BODY_WIDTH:Gc mg "BODY_WIDTH" (.int 36)) {f:Addr}{fd:FuncData}(F:Fun K "mark_of" "mark_of" zbU_ f fd) (len:∀ vs H Q E,zbx_ K vs H Q E→vs.length=1)
  (rd:∀ vs H Q E,zbx_ K vs H Q E→zd7_ K { nx:=fun _ H'=>Q .non H',rt:=Q } (start ["card"] vs) H):FnOk P w K mg base CX0 1 f fd ["card"] (zbx_ K):=by
 refine F.ok zjP_ len (fun cdv A outer s H vs Q E hr h=>⟨_,zkh_ C_BODY_WIDTH hr,rd vs H Q E h⟩)
theorem zkL_:FnScope Qn26 Qn26 (defScope zbP_):=⟨rfl,rfl,rfl,by decide +kernel,rfl,by decide +kernel,by decide +kernel⟩
theorem zjJ_  {cdv:Value}{A:Around}{outer:List Env}{s:Shared}{H:Hp}{E:XK}{f:Addr}(hr:Room 0 (A.deeper (envOfC "sign_at" (defScope zbP_) s.heap.objs.size f cdv))) :
  (PSs (cxOf CX0 P w K mg base Qn26 "sign_at" (defScope zbP_) f cdv A outer s H E).nox (defBody zbP_) (zd3_ K)) := 
 (zp_ (zaS_ (zdk_ ix_M (za_ 0) (zaP_ zdF_ (za_ 1) zo_) (fun _ _=>rfl))))
theorem zju_  {f:Addr}{fd:FuncData}(F:Fun K "sign_at" "sign_at" zbP_ f fd) (len:∀ vs H Q E,zbo_ K vs H Q E→vs.length=2)
  (rd:∀ vs H Q E,zbo_ K vs H Q E→zd3_ K { nx:=fun _ H'=>Q .non H',rt:=Q } (start Qn26 vs) H):FnOk P w K mg base CX0 1 f fd Qn26 (zbo_ K):=by
 refine F.ok zkL_ len (fun cdv A outer s H vs Q E hr h=>⟨_,zjJ_  hr,rd vs H Q E h⟩)
theorem ze5_:FnScope ["card", "board", "signs", "wire"] ["card", "board"] (defScope zbT_):=⟨rfl,rfl,rfl,by decide +kernel,rfl,by decide +kernel,by decide +kernel⟩
theorem zji_ (G_sign_at:Gd P w K mg base CX0 1 "sign_at" Qn26 (zbo_ K)) (C_BODY_WIDTH:Gc mg "BODY_WIDTH" (.int 36)) (B_range:Gb mg "range") {cdv:Value}{A:Around}{outer:List Env}{s:Shared}{H:Hp}{E:XK}{f:Addr}(hr:Room 1 (A.deeper (envOfC "lay_out" (defScope zbT_) s.heap.objs.size f cdv))) :
  (PSs (cxOf CX0 P w K mg base ["card", "board", "signs", "wire"] "lay_out" (defScope zbT_) f cdv A outer s H E).nox (defBody zbT_) (zd0_ K)) := 
 (ze_ (zdQ_ (cl:=[]) (lv:=["column"]) (fr:=[]) rfl ⟨rfl,by decide +kernel,rfl,by decide +kernel,(by intro q hq; cases hq)⟩ (zel_ B_range (zc_ (zpe_ C_BODY_WIDTH) zk_)) (fun _ _ _ _=>(zW_ (i:=0) (show List.Nodup (["column"]:List Str) from by decide +kernel) rfl (Or.inl rfl))) (fun _ _ _ _=>zdi_) (fun _ _ _ _=>(zdA_ (l:=[32]))) (zW_ (i:=2) ze5_.nd rfl (by first | exact Or.inl rfl | exact Or.inr rfl))) (ze_ (zc1_ PassesOwn.never rfl (zdG_ (za_ 1)) (zW_ (i:=3) ze5_.nd rfl (by first | exact Or.inl rfl | exact Or.inr rfl)) (zp_ (zpu_ (zQ_ G_sign_at (hr.mono (j:=1) (by decide)) (zc_ (za_ 0) (zc_ (zdk_ ix_M (za_ 3) zo_ (fun _ _=>rfl)) zk_))) (zp1_ (za_ 2) (zaP_ zdF_ (zdk_ ix_M (za_ 3) zo_ (fun _ _=>rfl)) zo_) set_M)))) (zp_ (zaS_ (znD_ PySem.F.slot_str_join PySem.F.type_str_join zj3_ (zdA_ (l:=[])) (zc_ (za_ 2) zk_))))))
theorem zjW_ (G_sign_at:Gd P w K mg base CX0 1 "sign_at" Qn26 (zbo_ K)) (C_BODY_WIDTH:Gc mg "BODY_WIDTH" (.int 36)) (B_range:Gb mg "range") {f:Addr}{fd:FuncData}(F:Fun K "lay_out" "lay_out" zbT_ f fd) (len:∀ vs H Q E,zbu_ K vs H Q E→vs.length=2)
  (rd:∀ vs H Q E,zbu_ K vs H Q E→zd0_ K { nx:=fun _ H'=>Q .non H',rt:=Q } (start ["card", "board", "signs", "wire"] vs) H):FnOk P w K mg base CX0 2 f fd ["card", "board"] (zbu_ K):=by
 refine F.ok ze5_ len (fun cdv A outer s H vs Q E hr h=>⟨_,zji_ G_sign_at C_BODY_WIDTH B_range hr,rd vs H Q E h⟩)
theorem zaN_:FnScope ["self", "card", "place", "field"] Qn29 (defScope zr_):=⟨rfl,rfl,rfl,by decide +kernel,rfl,by decide +kernel,by decide +kernel⟩
theorem zcN_ (G_part_of:Gd P w K mg base CX0 1 "part_of" Qn7 (z8_ K)) (B_enumerate:Gb mg "enumerate") (B_len:Gb mg "len") (CL_Counter:Cls K (gA K "Counter")) (NA_Counter_breaks:NoAttr K (gA K "Counter") "breaks") (NA_Counter_before:NoAttr K (gA K "Counter") "before") {cdv:Value}{A:Around}{outer:List Env}{s:Shared}{H:Hp}{E:XK}{f:Addr}(hr:Room 1 (A.deeper (envOfC "Counter.changed_level" (defScope zr_) s.heap.objs.size f cdv))) :
  (PSs (cxOf CX0 P w K mg base ["self", "card", "place", "field"] "Counter.changed_level" (defScope zr_) f cdv A outer s H E).nox (defBody zr_) (zT_ K)) := 
 (ze_ (zc1_ PassesOwn.never rfl (zks_ B_enumerate (zc_ (zaO_ CL_Counter NA_Counter_breaks (za_ 0)) zk_)) (zg8_ (n:=2) rfl (zbE_ (zW_ (i:=2) zaN_.nd rfl (by first | exact Or.inl rfl | exact Or.inr rfl)) (zbE_ (zW_ (i:=3) zaN_.nd rfl (by first | exact Or.inl rfl | exact Or.inr rfl)) zfp_))) (zp_ (zeh_ (zc4_ (zlu_ hr.u60) (zQ_ G_part_of (hr.mono (j:=1) (by decide)) (zc_ (za_ 1) (zc_ (za_ 3) zk_))) (zQ_ G_part_of (hr.mono (j:=1) (by decide)) (zc_ (zaO_ CL_Counter NA_Counter_before (za_ 0)) (zc_ (za_ 3) zk_)))) (zp_ (zaS_ (zaP_ zas_ (za_ 2) zo_))) zcg_))) (zp_ (zaS_ (zaP_ zas_ (zjN_ zdu_ B_len (zc_ (zaO_ CL_Counter NA_Counter_breaks (za_ 0)) zk_)) zo_))))
theorem zcD_ (G_part_of:Gd P w K mg base CX0 1 "part_of" Qn7 (z8_ K)) (B_enumerate:Gb mg "enumerate") (B_len:Gb mg "len") (CL_Counter:Cls K (gA K "Counter")) (NA_Counter_breaks:NoAttr K (gA K "Counter") "breaks") (NA_Counter_before:NoAttr K (gA K "Counter") "before") {f:Addr}{fd:FuncData}(F:Fun K "changed_level" "Counter.changed_level" zr_ f fd) (len:∀ vs H Q E,zn_ K vs H Q E→vs.length=2)
  (rd:∀ vs H Q E,zn_ K vs H Q E→zT_ K { nx:=fun _ H'=>Q .non H',rt:=Q } (start ["self", "card", "place", "field"] vs) H):FnOk P w K mg base CX0 2 f fd Qn29 (zn_ K):=by
 refine F.ok zaN_ len (fun cdv A outer s H vs Q E hr h=>⟨_,zcN_ G_part_of B_enumerate B_len CL_Counter NA_Counter_breaks NA_Counter_before hr,rd vs H Q E h⟩)
theorem zcA_:FnScope ["figures", "value", "figure"] ["figures"] (defScope zba_):=⟨rfl,rfl,rfl,by decide +kernel,rfl,by decide +kernel,by decide +kernel⟩
theorem zhP_ (C_FIGURES:Gc mg "FIGURES" (tx [48,49,50,51,52,53,54,55,56,57])) {cdv:Value}{A:Around}{outer:List Env}{s:Shared}{H:Hp}{E:XK}{f:Addr}(hr:Room 0 (A.deeper (envOfC "number_by" (defScope zba_) s.heap.objs.size f cdv))) :
  (PSs (cxOf CX0 P w K mg base ["figures", "value", "figure"] "number_by" (defScope zba_) f cdv A outer s H E).nox (defBody zba_) (zcp_ K)) := 
 (ze_ (zag_ (i:=1) zcA_.nd rfl (by first | exact Or.inl rfl | exact Or.inr rfl) zo_) (ze_ (zc1_ PassesOwn.never rfl (zdG_ (za_ 0)) (zW_ (i:=2) zcA_.nd rfl (by first | exact Or.inl rfl | exact Or.inr rfl)) (zp_ (zag_ (i:=1) zcA_.nd rfl (by first | exact Or.inl rfl | exact Or.inr rfl) (zaP_ zas_ (zaP_ ze2_ (za_ 1) zo_) (znD_ PySem.F.slot_str_index PySem.F.type_str_index zns_ (zpe_ C_FIGURES) (zc_ (za_ 2) zk_)))))) (zp_ (zaS_ (za_ 1)))))
theorem zhp_ (C_FIGURES:Gc mg "FIGURES" (tx [48,49,50,51,52,53,54,55,56,57])) {f:Addr}{fd:FuncData}(F:Fun K "number_by" "number_by" zba_ f fd) (len:∀ vs H Q E,zaF_ K vs H Q E→vs.length=1)
  (rd:∀ vs H Q E,zaF_ K vs H Q E→zcp_ K { nx:=fun _ H'=>Q .non H',rt:=Q } (start ["figures", "value", "figure"] vs) H):FnOk P w K mg base CX0 1 f fd ["figures"] (zaF_ K):=by
 refine F.ok zcA_ len (fun cdv A outer s H vs Q E hr h=>⟨_,zhP_ C_FIGURES hr,rd vs H Q E h⟩)
theorem zfu_:FnScope ["card", "field", "figures"] Qn7 (defScope za4_):=⟨rfl,rfl,rfl,by decide +kernel,rfl,by decide +kernel,by decide +kernel⟩
theorem zhF_ (G_part_of:Gd P w K mg base CX0 1 "part_of" Qn7 (z8_ K)) (G_number_by:Gd P w K mg base CX0 1 "number_by" ["figures"] (zaF_ K)) (C_FIGURES:Gc mg "FIGURES" (tx [48,49,50,51,52,53,54,55,56,57])) {cdv:Value}{A:Around}{outer:List Env}{s:Shared}{H:Hp}{E:XK}{f:Addr}(hr:Room 1 (A.deeper (envOfC "number_of" (defScope za4_) s.heap.objs.size f cdv))) :
  (PSs (cxOf CX0 P w K mg base ["card", "field", "figures"] "number_of" (defScope za4_) f cdv A outer s H E).nox (defBody za4_) (zcj_ K)) := 
 (ze_ (zdQ_ (cl:=[]) (lv:=["sign"]) (fr:=[]) rfl ⟨rfl,by decide +kernel,rfl,by decide +kernel,(by intro q hq; cases hq)⟩ (zdG_ (zQ_ G_part_of (hr.mono (j:=1) (by decide)) (zc_ (za_ 0) (zc_ (za_ 1) zk_)))) (fun _ _ _ _=>(zW_ (i:=0) (show List.Nodup (["sign"]:List Str) from by decide +kernel) rfl (Or.inl rfl))) (fun _ _ _ _=>zdi_) (fun _ _ _ _=>(zqb_ (zc4_ zp5_ (za_ 0) (zpe_ C_FIGURES)) (za_ 0) (zdA_ (l:=[48])))) (zW_ (i:=2) zfu_.nd rfl (by first | exact Or.inl rfl | exact Or.inr rfl))) (zp_ (zaS_ (zQ_ G_number_by (hr.mono (j:=1) (by decide)) (zc_ (znD_ PySem.F.slot_str_join PySem.F.type_str_join zj3_ (zdA_ (l:=[])) (zc_ (za_ 2) zk_)) zk_)))))
theorem zhn_ (G_part_of:Gd P w K mg base CX0 1 "part_of" Qn7 (z8_ K)) (G_number_by:Gd P w K mg base CX0 1 "number_by" ["figures"] (zaF_ K)) (C_FIGURES:Gc mg "FIGURES" (tx [48,49,50,51,52,53,54,55,56,57])) {f:Addr}{fd:FuncData}(F:Fun K "number_of" "number_of" za4_ f fd) (len:∀ vs H Q E,zaL_ K vs H Q E→vs.length=2)
  (rd:∀ vs H Q E,zaL_ K vs H Q E→zcj_ K { nx:=fun _ H'=>Q .non H',rt:=Q } (start ["card", "field", "figures"] vs) H):FnOk P w K mg base CX0 2 f fd Qn7 (zaL_ K):=by
 refine F.ok zfu_ len (fun cdv A outer s H vs Q E hr h=>⟨_,zhF_ G_part_of G_number_by C_FIGURES hr,rd vs H Q E h⟩)
theorem zbh_:FnScope Qn25 Qn29 (defScope zad_):=⟨rfl,rfl,rfl,by decide +kernel,rfl,by decide +kernel,by decide +kernel⟩
theorem zfD_ (G_Counter_close_levels:Gm P w K mg base CX0 4 (gA K "Counter") "close_levels" Qn30 (zg_ K)) (G_Counter_changed_level:Gm P w K mg base CX0 2 (gA K "Counter") "changed_level" Qn29 (zn_ K)) (G_mark_of:Gd P w K mg base CX0 1 "mark_of" ["card"] (zbx_ K)) (G_lay_out:Gd P w K mg base CX0 2 "lay_out" ["card", "board"] (zbu_ K)) (G_Counter_raise_level:Gm P w K mg base CX0 2 (gA K "Counter") "raise_level" Qn19 (zi_ K)) (G_number_of:Gd P w K mg base CX0 2 "number_of" Qn7 (zaL_ K)) (B_len:Gb mg "len") (CL_Counter:Cls K (gA K "Counter")) (NA_Counter_before:NoAttr K (gA K "Counter") "before") (NA_Counter_board:NoAttr K (gA K "Counter") "board") (NA_Counter_sums:NoAttr K (gA K "Counter") "sums") (NA_Counter_breaks:NoAttr K (gA K "Counter") "breaks") {cdv:Value}{A:Around}{outer:List Env}{s:Shared}{H:Hp}{E:XK}{f:Addr}(hr:Room 4 (A.deeper (envOfC "Counter.feed" (defScope zad_) s.heap.objs.size f cdv))) :
  (PSs (cxOf CX0 P w K mg base Qn25 "Counter.feed" (defScope zad_) f cdv A outer s H E).nox (defBody zad_) (zbt_ K)) := 
 (ze_ (zag_ (i:=2) zbh_.nd rfl (by first | exact Or.inl rfl | exact Or.inr rfl) (zcS_ zk_)) (ze_ (zeh_ (zc4_ zlB_ (zaO_ CL_Counter NA_Counter_before (za_ 0)) znA_) (zp_ (zag_ (i:=2) zbh_.nd rfl (by first | exact Or.inl rfl | exact Or.inr rfl) (zcd_ G_Counter_close_levels (hr.mono (j:=4) (by decide)) (za_ 0) (zc_ (zcd_ G_Counter_changed_level (hr.mono (j:=2) (by decide)) (za_ 0) (zc_ (za_ 1) zk_)) zk_)))) zcg_) (ze_ (zag_ (i:=3) zbh_.nd rfl (by first | exact Or.inl rfl | exact Or.inr rfl) (zQ_ G_mark_of (hr.mono (j:=1) (by decide)) (zc_ (za_ 1) zk_))) (ze_ (zag_ (i:=4) zbh_.nd rfl (by first | exact Or.inl rfl | exact Or.inr rfl) (zQ_ G_lay_out (hr.mono (j:=2) (by decide)) (zc_ (za_ 1) (zc_ (zaO_ CL_Counter NA_Counter_board (za_ 0)) zk_)))) (ze_ (zb5_ (zk0_ PySem.F.plainAttrs_list PySem.F.slot_list_append PySem.F.type_list_append zcv_ (za_ 2) (zc_ (zlx_ (zkx_ (zoa_ (za_ 3)) (zkx_ (zdA_ (l:=[32])) (zkx_ (zoa_ (za_ 4)) zpk_)))) zk_))) (ze_ (zb5_ (zcd_ G_Counter_raise_level (hr.mono (j:=2) (by decide)) (za_ 0) (zc_ (zjN_ zdu_ B_len (zc_ (zaO_ CL_Counter NA_Counter_breaks (za_ 0)) zk_)) (zc_ (zfl_ (cl:=_) (lv:=["field"]) (fr:=[("card",1)]) rfl ⟨rfl,by decide +kernel,rfl,by decide +kernel,(zfi_ (by refine ⟨rfl,by decide +kernel,?_,?_⟩<;>first | exact Or.inl rfl | exact Or.inr rfl) zix_)⟩ (zdG_ (zaO_ CL_Counter NA_Counter_sums (za_ 0))) (fun _ _ _ _=>(zW_ (i:=0) (show List.Nodup (["field", "card"]:List Str) from by decide +kernel) rfl (Or.inl rfl))) (fun _ _ _ _=>zdi_) (fun _ _ _ _=>(zQ_ G_number_of (hr.mono (j:=2) (by decide)) (zc_ (za_ 1) (zc_ (za_ 0) zk_))))) zk_)))) (ze_ (zb3_ CL_Counter NA_Counter_before (za_ 0) (za_ 1)) (zp_ (zaS_ (za_ 2))))))))))
theorem zfC_ (G_Counter_close_levels:Gm P w K mg base CX0 4 (gA K "Counter") "close_levels" Qn30 (zg_ K)) (G_Counter_changed_level:Gm P w K mg base CX0 2 (gA K "Counter") "changed_level" Qn29 (zn_ K)) (G_mark_of:Gd P w K mg base CX0 1 "mark_of" ["card"] (zbx_ K)) (G_lay_out:Gd P w K mg base CX0 2 "lay_out" ["card", "board"] (zbu_ K)) (G_Counter_raise_level:Gm P w K mg base CX0 2 (gA K "Counter") "raise_level" Qn19 (zi_ K)) (G_number_of:Gd P w K mg base CX0 2 "number_of" Qn7 (zaL_ K)) (B_len:Gb mg "len") (CL_Counter:Cls K (gA K "Counter")) (NA_Counter_before:NoAttr K (gA K "Counter") "before") (NA_Counter_board:NoAttr K (gA K "Counter") "board") (NA_Counter_sums:NoAttr K (gA K "Counter") "sums") (NA_Counter_breaks:NoAttr K (gA K "Counter") "breaks") {f:Addr}{fd:FuncData}(F:Fun K "feed" "Counter.feed" zad_ f fd) (len:∀ vs H Q E,z0_ K vs H Q E→vs.length=2)
  (rd:∀ vs H Q E,z0_ K vs H Q E→zbt_ K { nx:=fun _ H'=>Q .non H',rt:=Q } (start Qn25 vs) H):FnOk P w K mg base CX0 5 f fd Qn29 (z0_ K):=by
 refine F.ok zbh_ len (fun cdv A outer s H vs Q E hr h=>⟨_,zfD_ G_Counter_close_levels G_Counter_changed_level G_mark_of G_lay_out G_Counter_raise_level G_number_of B_len CL_Counter NA_Counter_before NA_Counter_board NA_Counter_sums NA_Counter_breaks hr,rd vs H Q E h⟩)
theorem zfy_:FnScope Qn28 ["_law_found", "_law_due"] (defScope za0_):=⟨rfl,rfl,rfl,by decide +kernel,rfl,by decide +kernel,by decide +kernel⟩
theorem zhf_ (B_isinstance:Gb mg "isinstance") (B_list:Gb mg "list") (B_str:Gb mg "str") {cdv:Value}{A:Around}{outer:List Env}{s:Shared}{H:Hp}{E:XK}{f:Addr}(hr:Room 0 (A.deeper (envOfC "_law_texts" (defScope za0_) s.heap.objs.size f cdv))) :
  (PSs (cxOf CX0 P w K mg base Qn28 "_law_texts" (defScope za0_) f cdv A outer s H E).nox (defBody za0_) (zcm_ K)) := 
 (ze_ (zeh_ (PW.pt (zpH_ (znv_ (zik_ (zjN_ zi2_ B_isinstance (zc_ (za_ 0) (zc_ (pe_ty "list" B_list) zk_))))) (zqC_ (zc4_ (zlu_ hr.u60) (za_ 0) (za_ 1))))) (zp_ (zaS_ zkP_)) zcg_) (ze_ (zc1_ PassesOwn.never rfl (zdG_ (za_ 0)) (zW_ (i:=2) zfy_.nd rfl (by first | exact Or.inl rfl | exact Or.inr rfl)) (zp_ (zeh_ (znv_ (zik_ (zjN_ zi2_ B_isinstance (zc_ (za_ 2) (zc_ (pe_ty "str" B_str) zk_))))) (zp_ (zaS_ zkP_)) zcg_))) (zp_ (zaS_ zkP_))))
theorem zhe_ (B_isinstance:Gb mg "isinstance") (B_list:Gb mg "list") (B_str:Gb mg "str") {f:Addr}{fd:FuncData}(F:Fun K "_law_texts" "_law_texts" za0_ f fd) (len:∀ vs H Q E,zah_ K vs H Q E→vs.length=2)
  (rd:∀ vs H Q E,zah_ K vs H Q E→zcm_ K { nx:=fun _ H'=>Q .non H',rt:=Q } (start Qn28 vs) H):FnOk P w K mg base CX0 1 f fd ["_law_found", "_law_due"] (zah_ K):=by
 refine F.ok zfy_ len (fun cdv A outer s H vs Q E hr h=>⟨_,zhf_ B_isinstance B_list B_str hr,rd vs H Q E h⟩)
theorem zeK_:FnScope Qn4 Qn4 (defScope zP_):=⟨rfl,rfl,rfl,by decide +kernel,rfl,by decide +kernel,by decide +kernel⟩
theorem zeF_ (G_Counter_close_level:Gm P w K mg base CX0 3 (gA K "Counter") "close_level" Qn16 (zh_ K)) (G_Counter_close_levels:Gm P w K mg base CX0 4 (gA K "Counter") "close_levels" Qn30 (zg_ K)) (CL_Counter:Cls K (gA K "Counter")) (NA_Counter_before:NoAttr K (gA K "Counter") "before") {cdv:Value}{A:Around}{outer:List Env}{s:Shared}{H:Hp}{E:XK}{f:Addr}(hr:Room 4 (A.deeper (envOfC "Counter.finish" (defScope zP_) s.heap.objs.size f cdv))) :
  (PSs (cxOf CX0 P w K mg base Qn4 "Counter.finish" (defScope zP_) f cdv A outer s H E).nox (defBody zP_) (zaW_ K)) := 
 (ze_ (zeh_ (zc4_ zqB_ (zaO_ CL_Counter NA_Counter_before (za_ 0)) znA_) (zp_ (zaS_ (zcS_ (zc_ (zcd_ G_Counter_close_level (hr.mono (j:=3) (by decide)) (za_ 0) (zc_ zo_ zk_)) zk_)))) zcg_) (zp_ (zaS_ (zcd_ G_Counter_close_levels (hr.mono (j:=4) (by decide)) (za_ 0) (zc_ zo_ zk_)))))
theorem zeH_ (G_Counter_close_level:Gm P w K mg base CX0 3 (gA K "Counter") "close_level" Qn16 (zh_ K)) (G_Counter_close_levels:Gm P w K mg base CX0 4 (gA K "Counter") "close_levels" Qn30 (zg_ K)) (CL_Counter:Cls K (gA K "Counter")) (NA_Counter_before:NoAttr K (gA K "Counter") "before") {f:Addr}{fd:FuncData}(F:Fun K "finish" "Counter.finish" zP_ f fd) (len:∀ vs H Q E,zF_ K vs H Q E→vs.length=1)
  (rd:∀ vs H Q E,zF_ K vs H Q E→zaW_ K { nx:=fun _ H'=>Q .non H',rt:=Q } (start Qn4 vs) H):FnOk P w K mg base CX0 5 f fd Qn4 (zF_ K):=by
 refine F.ok zeK_ len (fun cdv A outer s H vs Q E hr h=>⟨_,zeF_ G_Counter_close_level G_Counter_close_levels CL_Counter NA_Counter_before hr,rd vs H Q E h⟩)
theorem zbZ_:FnScope Qn11 Qn23 (defScope za6_):=⟨rfl,rfl,rfl,by decide +kernel,rfl,by decide +kernel,by decide +kernel⟩
theorem zhI_ (B_range:Gb mg "range") {cdv:Value}{A:Around}{outer:List Env}{s:Shared}{H:Hp}{E:XK}{f:Addr}(hr:Room 0 (A.deeper (envOfC "_law_shown" (defScope za6_) s.heap.objs.size f cdv))) :
  (PSs (cxOf CX0 P w K mg base Qn11 "_law_shown" (defScope za6_) f cdv A outer s H E).nox (defBody za6_) (zct_ K)) := 
 (ze_ (zag_ (i:=2) zbZ_.nd rfl (by first | exact Or.inl rfl | exact Or.inr rfl) (zdA_ (l:=[]))) (ze_ (zc1_ PassesOwn.never rfl (zel_ B_range (zc_ (za_ 1) zk_)) (zW_ (i:=3) zbZ_.nd rfl (by first | exact Or.inl rfl | exact Or.inr rfl)) (ze_ (zag_ (i:=2) zbZ_.nd rfl (by first | exact Or.inl rfl | exact Or.inr rfl) (zaP_ zas_ (zdk_ ix_M (zdA_ (l:=[48,49,50,51,52,53,54,55,56,57])) (zaP_ zbb_ (za_ 0) zo_) (fun _ _=>rfl)) (za_ 2))) (zp_ (zag_ (i:=0) zbZ_.nd rfl (by first | exact Or.inl rfl | exact Or.inr rfl) (zaP_ zdT_ (za_ 0) zo_))))) (zp_ (zaS_ (za_ 2)))))
theorem zht_ (B_range:Gb mg "range") {f:Addr}{fd:FuncData}(F:Fun K "_law_shown" "_law_shown" za6_ f fd) (len:∀ vs H Q E,zaI_ K vs H Q E→vs.length=2)
  (rd:∀ vs H Q E,zaI_ K vs H Q E→zct_ K { nx:=fun _ H'=>Q .non H',rt:=Q } (start Qn11 vs) H):FnOk P w K mg base CX0 1 f fd Qn23 (zaI_ K):=by
 refine F.ok zbZ_ len (fun cdv A outer s H vs Q E hr h=>⟨_,zhI_ B_range hr,rd vs H Q E h⟩)
theorem zaj_:FnScope Qn3 Qn20 (defScope z3_):=⟨rfl,rfl,rfl,by decide +kernel,rfl,by decide +kernel,by decide +kernel⟩
theorem ze3_ (B_range:Gb mg "range") {cdv:Value}{A:Around}{outer:List Env}{s:Shared}{H:Hp}{E:XK}{f:Addr}(hr:Room 0 (A.deeper (envOfC "_law_card_line" (defScope z3_) s.heap.objs.size f cdv))) :
  (PSs (cxOf CX0 P w K mg base Qn3 "_law_card_line" (defScope z3_) f cdv A outer s H E).nox (defBody z3_) (zbf_ K)) := 
 (ze_ (zag_ (i:=2) zaj_.nd rfl (by first | exact Or.inl rfl | exact Or.inr rfl) ziY_) (ze_ (zc1_ PassesOwn.never rfl (zdG_ (za_ 1)) (zg8_ (n:=2) rfl (zbE_ (zW_ (i:=3) zaj_.nd rfl (by first | exact Or.inl rfl | exact Or.inr rfl)) (zbE_ (zW_ (i:=4) zaj_.nd rfl (by first | exact Or.inl rfl | exact Or.inr rfl)) zfp_))) (zp_ (zjO_ hr.u60 (za_ 2) (za_ 4) (zdk_ ix_M (za_ 0) (zaP_ zdF_ (za_ 3) zo_) (fun _ _=>rfl))))) (ze_ (zag_ (i:=5) zaj_.nd rfl (by first | exact Or.inl rfl | exact Or.inr rfl) (zaP_ zas_ (zek_ sl_M (za_ 0) (po_M zo_) zkg_) (zdA_ (l:=[32])))) (ze_ (zc1_ PassesOwn.never rfl (zka_ B_range (zc_ zo_ (zc_ zo_ zk_))) (zW_ (i:=6) zaj_.nd rfl (by first | exact Or.inl rfl | exact Or.inr rfl)) (zp_ (zag_ (i:=5) zaj_.nd rfl (by first | exact Or.inl rfl | exact Or.inr rfl) (zaP_ zas_ (za_ 5) (zlt_ hr.u60 (za_ 2) (za_ 6) (zdA_ (l:=[32]))))))) (zp_ (zaS_ (za_ 5)))))))
theorem zfv_ (B_range:Gb mg "range") {f:Addr}{fd:FuncData}(F:Fun K "_law_card_line" "_law_card_line" z3_ f fd) (len:∀ vs H Q E,zM_ K vs H Q E→vs.length=2)
  (rd:∀ vs H Q E,zM_ K vs H Q E→zbf_ K { nx:=fun _ H'=>Q .non H',rt:=Q } (start Qn3 vs) H):FnOk P w K mg base CX0 1 f fd Qn20 (zM_ K):=by
 refine F.ok zaj_ len (fun cdv A outer s H vs Q E hr h=>⟨_,ze3_ B_range hr,rd vs H Q E h⟩)
theorem zb6_:FnScope Qn9 Qn21 (defScope zaB_):=⟨rfl,rfl,rfl,by decide +kernel,rfl,by decide +kernel,by decide +kernel⟩
theorem zgO_ (B_max:Gb mg "max") {cdv:Value}{A:Around}{outer:List Env}{s:Shared}{H:Hp}{E:XK}{f:Addr}(hr:Room 0 (A.deeper (envOfC "_law_number" (defScope zaB_) s.heap.objs.size f cdv))) :
  (PSs (cxOf CX0 P w K mg base Qn9 "_law_number" (defScope zaB_) f cdv A outer s H E).nox (defBody zaB_) (zbV_ K)) := 
 (ze_ (zag_ (i:=2) zb6_.nd rfl (by first | exact Or.inl rfl | exact Or.inr rfl) zo_) (ze_ (zc1_ PassesOwn.never rfl (zdG_ (zek_ sl_M (za_ 0) (po_M (zaP_ zdF_ (zdk_ ix_M (za_ 1) zo_ (fun _ _=>rfl)) zo_)) (po_M (zdk_ ix_M (za_ 1) zo_ (fun _ _=>rfl))))) (zW_ (i:=3) zb6_.nd rfl (by first | exact Or.inl rfl | exact Or.inr rfl)) (zp_ (zag_ (i:=2) zb6_.nd rfl (by first | exact Or.inl rfl | exact Or.inr rfl) (zaP_ zas_ (zaP_ ze2_ zo_ (za_ 2)) (zjN_ (zls_ rfl) B_max (zc_ zo_ (zc_ (znD_ PySem.F.slot_str_find PySem.F.type_str_find zoy_ (zdA_ (l:=[48,49,50,51,52,53,54,55,56,57])) (zc_ (za_ 3) zk_)) zk_))))))) (zp_ (zaS_ (za_ 2)))))
theorem zgA_ (B_max:Gb mg "max") {f:Addr}{fd:FuncData}(F:Fun K "_law_number" "_law_number" zaB_ f fd) (len:∀ vs H Q E,zaq_ K vs H Q E→vs.length=2)
  (rd:∀ vs H Q E,zaq_ K vs H Q E→zbV_ K { nx:=fun _ H'=>Q .non H',rt:=Q } (start Qn9 vs) H):FnOk P w K mg base CX0 1 f fd Qn21 (zaq_ K):=by
 refine F.ok zb6_ len (fun cdv A outer s H vs Q E hr h=>⟨_,zgO_ B_max hr,rd vs H Q E h⟩)
theorem zcU_:FnScope Qn1 ["_law_script"] (defScope ziU_):=⟨rfl,rfl,rfl,by decide +kernel,rfl,by decide +kernel,by decide +kernel⟩
theorem zqn_ (G_law_kinds:Gd P w K mg base CX0 2 "_law_kinds" Qn22 (zaK_ K)) (G_law_cell_at:Gd P w K mg base CX0 1 "_law_cell_at" Qn14 (zH_ K)) (G_law_stream:Gd P w K mg base CX0 1 "_law_stream" Qn10 (zw_ K)) (G_law_field:Gd P w K mg base CX0 1 "_law_field" Qn18 (zaJ_ K)) (G_law_board:Gd P w K mg base CX0 2 "_law_board" Qn22 (zaC_ K)) (G_Counter___init__:Gk P w K mg base CX0 4 "Counter" (gA K "Counter") Qn5 (zD_ K)) (G_law_card:Gd P w K mg base CX0 2 "_law_card" Qn15 (za2_ K)) (G_Counter_feed:Gm P w K mg base CX0 5 (gA K "Counter") "feed" Qn29 (z0_ K)) (G_law_card_line:Gd P w K mg base CX0 1 "_law_card_line" Qn20 (zM_ K)) (G_law_texts:Gd P w K mg base CX0 1 "_law_texts" ["_law_found", "_law_due"] (zah_ K)) (G_law_number:Gd P w K mg base CX0 1 "_law_number" Qn21 (zaq_ K)) (G_Counter_overs:Gm P w K mg base CX0 1 (gA K "Counter") "overs" Qn4 (zE_ K)) (G_law_shown:Gd P w K mg base CX0 1 "_law_shown" Qn23 (zaI_ K)) (G_Counter_finish:Gm P w K mg base CX0 5 (gA K "Counter") "finish" Qn4 (zF_ K)) (B_list:Gb mg "list") (B_enumerate:Gb mg "enumerate") (B_zip:Gb mg "zip") {cdv:Value}{A:Around}{outer:List Env}{s:Shared}{H:Hp}{E:XK}{f:Addr}(hr:Room 5 (A.deeper (envOfC "law" (defScope ziU_) s.heap.objs.size f cdv))) :
  (PSs (cxOf CX0 P w K mg base Qn1 "law" (defScope ziU_) f cdv A outer s H E).nox (defBody ziU_) (zoB_ K)) := 
 (ze_ (zag_ (i:=1) zcU_.nd rfl (by first | exact Or.inl rfl | exact Or.inr rfl) (zQ_ G_law_kinds (hr.mono (j:=2) (by decide)) (zc_ (zQ_ G_law_cell_at (hr.mono (j:=1) (by decide)) (zc_ (za_ 0) (zc_ zo_ zk_))) zk_))) (ze_ (zag_ (i:=2) zcU_.nd rfl (by first | exact Or.inl rfl | exact Or.inr rfl) (zaP_ zbb_ (zQ_ G_law_cell_at (hr.mono (j:=1) (by decide)) (zc_ (za_ 0) (zc_ zo_ zk_))) zo_)) (ze_ (zag_ (i:=3) zcU_.nd rfl (by first | exact Or.inl rfl | exact Or.inr rfl) (zdk_ ix_M (zcS_ (zc_ zo_ (zc_ zo_ zk_))) (zaP_ zbb_ (zQ_ G_law_cell_at (hr.mono (j:=1) (by decide)) (zc_ (za_ 0) (zc_ zo_ zk_))) zo_) (fun _ _=>rfl))) (ze_ (zdQ_ (cl:=_) (lv:=["_law_number_here"]) (fr:=[("_law_most",3)]) rfl ⟨rfl,by decide +kernel,rfl,by decide +kernel,(zfi_ (by refine ⟨rfl,by decide +kernel,?_,?_⟩<;>first | exact Or.inl rfl | exact Or.inr rfl) zix_)⟩ (zdG_ (zQ_ G_law_stream (hr.mono (j:=1) (by decide)) (zc_ (zQ_ G_law_cell_at (hr.mono (j:=1) (by decide)) (zc_ (za_ 0) (zc_ zo_ zk_))) (zc_ (za_ 2) zk_)))) (fun _ _ _ _=>(zW_ (i:=0) (show List.Nodup (Qn18:List Str) from by decide +kernel) rfl (Or.inl rfl))) (fun _ _ _ _=>zdi_) (fun _ _ _ _=>(zQ_ G_law_field (hr.mono (j:=1) (by decide)) (zc_ (za_ 0) (zc_ (za_ 1) zk_)))) (zW_ (i:=4) zcU_.nd rfl (by first | exact Or.inl rfl | exact Or.inr rfl))) (ze_ (zag_ (i:=5) zcU_.nd rfl (by first | exact Or.inl rfl | exact Or.inr rfl) (zQ_ G_law_board (hr.mono (j:=2) (by decide)) (zc_ (zQ_ G_law_cell_at (hr.mono (j:=1) (by decide)) (zc_ (za_ 0) (zc_ zo_ zk_))) zk_))) (ze_ (zag_ (i:=6) zcU_.nd rfl (by first | exact Or.inl rfl | exact Or.inr rfl) (zcS_ (zc_ (znH_ "list" (zde_ rfl) B_list (zc_ (za_ 4) zk_)) (zc_ (znH_ "list" (zde_ rfl) B_list (zc_ (za_ 5) zk_)) zk_)))) (ze_ (zag_ (i:=7) zcU_.nd rfl (by first | exact Or.inl rfl | exact Or.inr rfl) (zjd_ G_Counter___init__ (hr.mono (j:=4+1) (by decide)) (zc_ (zcS_ zk_) (zc_ (zdk_ ix_M (za_ 6) zo_ (fun _ _=>rfl)) (zc_ zo_ (zc_ (zdk_ ix_M (za_ 6) zo_ (fun _ _=>rfl)) zk_)))))) (ze_ (zeh_ (zc4_ (zlu_ hr.u60) (za_ 6) (zcS_ (zc_ (za_ 4) (zc_ (za_ 5) zk_)))) (zp_ (zaS_ zkP_)) zcg_) (ze_ (zb5_ (znL_ PySem.F.plainAttrs_list PySem.F.slot_list_clear PySem.F.type_list_clear zkp_ (zdk_ ix_M (za_ 6) zo_ (fun _ _=>rfl)))) (ze_ (zb5_ (znL_ PySem.F.plainAttrs_list PySem.F.slot_list_clear PySem.F.type_list_clear zkp_ (zdk_ ix_M (za_ 6) zo_ (fun _ _=>rfl)))) (ze_ (zag_ (i:=8) zcU_.nd rfl (by first | exact Or.inl rfl | exact Or.inr rfl) (zaP_ ze2_ (zcS_ (zc_ zo_ zk_)) (za_ 2))) (ze_ (zag_ (i:=9) zcU_.nd rfl (by first | exact Or.inl rfl | exact Or.inr rfl) (zcS_ zk_)) (ze_ (zag_ (i:=10) zcU_.nd rfl (by first | exact Or.inl rfl | exact Or.inr rfl) (zcS_ zk_)) (ze_ (zc1_ PassesOwn.never rfl (zks_ B_enumerate (zc_ (zek_ sl_M (za_ 0) (po_M zo_) (po_M zo_)) zk_)) (zg8_ (n:=2) rfl (zbE_ (zW_ (i:=11) zcU_.nd rfl (by first | exact Or.inl rfl | exact Or.inr rfl)) (zbE_ (zW_ (i:=12) zcU_.nd rfl (by first | exact Or.inl rfl | exact Or.inr rfl)) zfp_))) (ze_ (zag_ (i:=13) zcU_.nd rfl (by first | exact Or.inl rfl | exact Or.inr rfl) (zQ_ G_law_card (hr.mono (j:=2) (by decide)) (zc_ (za_ 12) (zc_ (za_ 11) (zc_ (za_ 1) zk_))))) (ze_ (zb5_ (zk0_ PySem.F.plainAttrs_list PySem.F.slot_list_append PySem.F.type_list_append zcv_ (za_ 9) (zc_ (zcd_ G_Counter_feed (hr.mono (j:=5) (by decide)) (za_ 7) (zc_ (za_ 13) zk_)) zk_))) (ze_ (zb5_ (zk0_ PySem.F.plainAttrs_list PySem.F.slot_list_append PySem.F.type_list_append zcv_ (za_ 10) (zc_ (zcS_ (zc_ (zQ_ G_law_card_line (hr.mono (j:=1) (by decide)) (zc_ (za_ 13) (zc_ (za_ 5) zk_))) zk_)) zk_))) (ze_ (zeh_ (znv_ (zik_ (zQ_ G_law_texts (hr.mono (j:=1) (by decide)) (zc_ (zdk_ ix_M (za_ 9) (za_ 11) (fun _ _=>rfl)) (zc_ (zdk_ ix_M (za_ 10) (za_ 11) (fun _ _=>rfl)) zk_))))) (zp_ (zaS_ zkP_)) zcg_) (zp_ (zdQ_ (cl:=_) (lv:=["_law_total", "_law_field_here"]) (fr:=[("_law_card_here",13)]) rfl ⟨rfl,by decide +kernel,rfl,by decide +kernel,(zfi_ (by refine ⟨rfl,by decide +kernel,?_,?_⟩<;>first | exact Or.inl rfl | exact Or.inr rfl) zix_)⟩ (zpx_ B_zip (zc_ (za_ 8) (zc_ (za_ 4) zk_))) (fun _ _ _ _=>(zg8_ (n:=2) rfl (zbE_ (zW_ (i:=0) (show List.Nodup (["_law_total", "_law_field_here", "_law_card_here"]:List Str) from by decide +kernel) rfl (Or.inl rfl)) (zbE_ (zW_ (i:=1) (show List.Nodup (["_law_total", "_law_field_here", "_law_card_here"]:List Str) from by decide +kernel) rfl (Or.inl rfl)) zfp_)))) (fun _ _ _ _=>zdi_) (fun _ _ _ _=>(zaP_ zas_ (za_ 0) (zQ_ G_law_number (hr.mono (j:=1) (by decide)) (zc_ (za_ 2) (zc_ (za_ 1) zk_))))) (zW_ (i:=8) zcU_.nd rfl (by first | exact Or.inl rfl | exact Or.inr rfl))))))))) (ze_ (zeh_ (zc4_ (zlu_ hr.u60) (zcM_ G_Counter_overs (hr.mono (j:=1) (by decide)) (za_ 7)) (zcS_ zk_)) (zp_ (zaS_ zkP_)) zcg_) (ze_ (zag_ (i:=14) zcU_.nd rfl (by first | exact Or.inl rfl | exact Or.inr rfl) (zdA_ (l:=[42]))) (ze_ (zc1_ PassesOwn.never rfl (zdG_ (za_ 8)) (zW_ (i:=15) zcU_.nd rfl (by first | exact Or.inl rfl | exact Or.inr rfl)) (zp_ (zag_ (i:=14) zcU_.nd rfl (by first | exact Or.inl rfl | exact Or.inr rfl) (zaP_ zas_ (zaP_ zas_ (za_ 14) (zdA_ (l:=[32]))) (zQ_ G_law_shown (hr.mono (j:=1) (by decide)) (zc_ (za_ 15) (zc_ zo_ zk_))))))) (zp_ (zaS_ (zl6_ (zQ_ G_law_texts (hr.mono (j:=1) (by decide)) (zc_ (zcM_ G_Counter_finish (hr.mono (j:=5) (by decide)) (za_ 7)) (zc_ (zcS_ (zc_ (za_ 14) zk_)) zk_))) (zl6_ (zlW_ (znI_ hr.u60) (zcM_ G_Counter_overs (hr.mono (j:=1) (by decide)) (za_ 7)) (zcS_ zk_)) (zqt_ (zlW_ (znI_ hr.u60) (za_ 9) (za_ 10))))))))))))))))))))))))
theorem zpA_ (G_law_kinds:Gd P w K mg base CX0 2 "_law_kinds" Qn22 (zaK_ K)) (G_law_cell_at:Gd P w K mg base CX0 1 "_law_cell_at" Qn14 (zH_ K)) (G_law_stream:Gd P w K mg base CX0 1 "_law_stream" Qn10 (zw_ K)) (G_law_field:Gd P w K mg base CX0 1 "_law_field" Qn18 (zaJ_ K)) (G_law_board:Gd P w K mg base CX0 2 "_law_board" Qn22 (zaC_ K)) (G_Counter___init__:Gk P w K mg base CX0 4 "Counter" (gA K "Counter") Qn5 (zD_ K)) (G_law_card:Gd P w K mg base CX0 2 "_law_card" Qn15 (za2_ K)) (G_Counter_feed:Gm P w K mg base CX0 5 (gA K "Counter") "feed" Qn29 (z0_ K)) (G_law_card_line:Gd P w K mg base CX0 1 "_law_card_line" Qn20 (zM_ K)) (G_law_texts:Gd P w K mg base CX0 1 "_law_texts" ["_law_found", "_law_due"] (zah_ K)) (G_law_number:Gd P w K mg base CX0 1 "_law_number" Qn21 (zaq_ K)) (G_Counter_overs:Gm P w K mg base CX0 1 (gA K "Counter") "overs" Qn4 (zE_ K)) (G_law_shown:Gd P w K mg base CX0 1 "_law_shown" Qn23 (zaI_ K)) (G_Counter_finish:Gm P w K mg base CX0 5 (gA K "Counter") "finish" Qn4 (zF_ K)) (B_list:Gb mg "list") (B_enumerate:Gb mg "enumerate") (B_zip:Gb mg "zip") {f:Addr}{fd:FuncData}(F:Fun K "law" "law" ziU_ f fd) (len:∀ vs H Q E,zgS_ K vs H Q E→vs.length=1)
  (rd:∀ vs H Q E,zgS_ K vs H Q E→zoB_ K { nx:=fun _ H'=>Q .non H',rt:=Q } (start Qn1 vs) H):FnOk P w K mg base CX0 6 f fd ["_law_script"] (zgS_ K):=by
 refine F.ok zcU_ len (fun cdv A outer s H vs Q E hr h=>⟨_,zqn_ G_law_kinds G_law_cell_at G_law_stream G_law_field G_law_board G_Counter___init__ G_law_card G_Counter_feed G_law_card_line G_law_texts G_law_number G_Counter_overs G_law_shown G_Counter_finish B_list B_enumerate B_zip hr,rd vs H Q E h⟩)
end
end K33
namespace K33
open PySem PySem.Spec PyProof.Rows L2
theorem zln_ {K:PySem.W.Frag}{E:XK}(c:Int):EvS K (zft_ K) E [(Sl.fz tyInt c),Sl.dead,Sl.dead] (zge_ c) (fun _:Unit=>[]) (fun _:Unit=>[]) (owF tyInt) :=
 (zdO_ (i:=1) rfl zb_ (zs_ 1) fun value_1=>(at_ [(Sl.fz tyInt c),(Sl.fz tyInt value_1),Sl.dead] (zeg_ (LS:=(fun s_2:Int=>[(Sl.fz tyInt c),(Sl.fz tyInt s_2),Sl.dead])) (zcT_ (L':=[(Sl.fz tyInt c),(Sl.fz tyInt value_1),Sl.dead]) (.same (.same (.same .nil))) (zhw_ (LS:=(fun s_2:Int=>[(Sl.fz tyInt c),(Sl.fz tyInt s_2),Sl.dead])) (s0:=value_1) (zfT_ (zj_ (zd_ 0 rfl))) (zav_ 2) fun s_2 x_4=>at_ [(Sl.fz tyInt c),(Sl.fz tyInt s_2),(Sl.fz tyInt x_4)] (zeB_ (zdO_ (i:=1) rfl zb_ (zX_ zfg_ (zd_ 1 rfl) (zs_ 10)) fun value_5=>(at_ [(Sl.fz tyInt c),(Sl.fz tyInt value_5),(Sl.fz tyInt x_4)] (zU_ (.same (.same (.dead .nil))))))))) fun s_2=>(at_ [(Sl.fz tyInt c),(Sl.fz tyInt s_2),Sl.dead] (zef_ (zv_ zb_) (EvF.ow (zd_ 1 rfl)))))))
theorem zlJ_ {K:PySem.W.Frag}:RD_ten_to K:=ze0_ (K:=K) (N:=["power", "value", "step"]) (C:=(csLast tyInt)) (O:=(owF tyInt)) (t:=fun E=>zft_ K) (ss:=fun c=>[(Sl.fz tyInt c)]) (f:=fun c=>zge_ c) 1 2 zf_ rfl zL_ fun c E=>zln_ c
theorem zeG_ {K:PySem.W.Frag}{E:XK}(w_:V) (x:Unit) (c:Int):EvS K (zaX_ K) E [(Sl.ow (owAt w_ (owI (gA K "Wheel") [] psNil)) x),(Sl.fz tyInt c)] (zbs_ x c) (fun x':Qq6=>[(Sl.ow (owAt w_ (Qq4 K)) x'),Sl.dead]) (fun _:Unit=>[]) (owRM w_ (Qq4 K) (owF tyNon)) :=
 (zgY_ (P:=psNil) (P':=(psO (owF tyInt) psNil)) (ad:=fun c z=>(z,())) (ns:=[]) (i:=0) rfl (by decide +kernel) (by decide) zfJ_ zb_ (zd_ 1 rfl) fun x_2=>(at_ [(Sl.ow (owAt w_ (owI (gA K "Wheel") ["figures"] (psO (owF tyInt) psNil))) x_2),(Sl.fz tyInt c)] (zgY_ (P:=(psO (owF tyInt) psNil)) (P':=(psO (owF tyInt) (psO (owF tyInt) psNil))) (ad:=fun c z=>(c.1,(z,()))) (ns:=["figures"]) (i:=0) rfl (by decide +kernel) (by decide) (zcc_ zfJ_) zb_ (zR_ (zj_ (zd_ 1 rfl))) fun x_4=>(at_ [(Sl.ow (owAt w_ (owI (gA K "Wheel") ["figures", "power"] (psO (owF tyInt) (psO (owF tyInt) psNil)))) x_4),(Sl.fz tyInt c)] (zgY_ (P:=(psO (owF tyInt) (psO (owF tyInt) psNil))) (P':=(psO (owF tyInt) (psO (owF tyInt) (psO (owF tyInt) psNil)))) (ad:=fun c z=>(c.1,(c.2.1,(z,())))) (ns:=["figures", "power"]) (i:=0) rfl (by decide +kernel) (by decide) (zcc_ (zcc_ zfJ_)) zb_ (zs_ 0) fun x_6=>(at_ [(Sl.ow (owAt w_ (owI (gA K "Wheel") ["figures", "power", "kept"] (psO (owF tyInt) (psO (owF tyInt) (psO (owF tyInt) psNil))))) x_6),(Sl.fz tyInt c)] (zeB_ (zgY_ (P:=(psO (owF tyInt) (psO (owF tyInt) (psO (owF tyInt) psNil)))) (P':=(psO (owF tyInt) (psO (owF tyInt) (psO (owF tyInt) (psO (owF tyBl) psNil))))) (ad:=fun c z=>(c.1,(c.2.1,(c.2.2.1,(z,()))))) (ns:=["figures", "power", "kept"]) (i:=0) rfl (by decide +kernel) (by decide) (zcc_ (zcc_ (zcc_ zfJ_))) za3_ (zkN_ false) fun x_8=>(at_ [(Sl.ow (owAt w_ (Qq4 K)) x_8),(Sl.fz tyInt c)] (zU_ (.same (.dead .nil))))))))))))
theorem zeC_ {K:PySem.W.Frag}:RD_Wheel___init__ K:=zgv_ (K:=K) (N:=Qn24) (O:=(owI (gA K "Wheel") [] psNil)) (O2:=(Qq4 K)) (Q:=(csLast tyInt)) (t:=fun E=>zaX_ K) (ss:=fun c=>[(Sl.fz tyInt c)]) (g:=fun x c=>zbs_ x c) (LS:=fun w_=>(fun x':Qq6=>[(Sl.ow (owAt w_ (Qq4 K)) x'),Sl.dead])) 1 0 zf_ rfl zL_ (fun _ _=>rfl) fun w_ x c E=>zeG_ w_ x c
theorem zdY_ {K:PySem.W.Frag}{E:XK}(w_:V) (x:Unit) (c:((List (Int×Int))×((List (Int×Int))×(Int×(List (Int×Int)))))):EvS K (zaw_ K) E [(Sl.ow (owAt w_ (owI (gA K "Counter") [] psNil)) x),(Sl.fz (tyL Qq2) c.1),(Sl.fz (tyL Qq2) c.2.1),(Sl.fz tyInt c.2.2.1),(Sl.fz (tyL Qq2) c.2.2.2)] (za8_ x c.1 c.2.1 c.2.2.1 c.2.2.2) (fun x':Qq1=>[(Sl.ow (owAt w_ (Qq0 K)) x'),Sl.dead,Sl.dead,Sl.dead,Sl.dead]) (fun _:Unit=>[]) (owRM w_ (Qq0 K) (owF tyNon)) :=
 (zhb_ (P:=psNil) (P':=(psO (owL Qq2) psNil)) (ad:=fun c z=>(z,())) (ns:=[]) (O1:=(owL Qq2)) (i:=0) rfl (by decide +kernel) (by decide) zfJ_ (z1_ (zY_ (zt_ zb_ (zq_ zb_)))) (ziz_ zgw_ (zj_ (zd_ 1 rfl))) fun x_2=>(at_ [(Sl.ow (owAt w_ (owI (gA K "Counter") ["breaks"] (psO (owL Qq2) psNil))) x_2),(Sl.fz (tyL Qq2) c.1),(Sl.fz (tyL Qq2) c.2.1),(Sl.fz tyInt c.2.2.1),(Sl.fz (tyL Qq2) c.2.2.2)] (zhb_ (P:=(psO (owL Qq2) psNil)) (P':=(psO (owL Qq2) (psO (owL Qq2) psNil))) (ad:=fun c z=>(c.1,(z,()))) (ns:=["breaks"]) (O1:=(owL Qq2)) (i:=0) rfl (by decide +kernel) (by decide) (zcc_ zfJ_) (z1_ (zY_ (zt_ zb_ (zq_ zb_)))) (ziz_ zgw_ (zj_ (zd_ 2 rfl))) fun x_4=>(at_ [(Sl.ow (owAt w_ (owI (gA K "Counter") ["breaks", "sums"] (psO (owL Qq2) (psO (owL Qq2) psNil)))) x_4),(Sl.fz (tyL Qq2) c.1),(Sl.fz (tyL Qq2) c.2.1),(Sl.fz tyInt c.2.2.1),(Sl.fz (tyL Qq2) c.2.2.2)] (zhb_ (P:=(psO (owL Qq2) (psO (owL Qq2) psNil))) (P':=(psO (owL Qq2) (psO (owL Qq2) (psO (owL Qq2) psNil)))) (ad:=fun c z=>(c.1,(c.2.1,(z,())))) (ns:=["breaks", "sums"]) (O1:=(owL Qq2)) (i:=0) rfl (by decide +kernel) (by decide) (zcc_ (zcc_ zfJ_)) (z1_ (zY_ (zt_ zb_ (zq_ zb_)))) (ziz_ zgw_ (zj_ (zd_ 4 rfl))) fun x_6=>(at_ [(Sl.ow (owAt w_ (owI (gA K "Counter") ["breaks", "sums", "board"] (psO (owL Qq2) (psO (owL Qq2) (psO (owL Qq2) psNil))))) x_6),(Sl.fz (tyL Qq2) c.1),(Sl.fz (tyL Qq2) c.2.1),(Sl.fz tyInt c.2.2.1),(Sl.fz (tyL Qq2) c.2.2.2)] (zhb_ (P:=(psO (owL Qq2) (psO (owL Qq2) (psO (owL Qq2) psNil)))) (P':=(psO (owL Qq2) (psO (owL Qq2) (psO (owL Qq2) (psO (owLO (owLO (Qq4 K))) psNil))))) (ad:=fun c z=>(c.1,(c.2.1,(c.2.2.1,(z,()))))) (ns:=["breaks", "sums", "board"]) (O1:=(owLO (owLO (Qq4 K)))) (i:=0) rfl (by decide +kernel) (by decide) (zcc_ (zcc_ (zcc_ zfJ_))) (zbe_ (zbe_ (zce_ (zm_ (zv_ zb_) (zm_ (zv_ zb_) (zm_ (zv_ zb_) (zm_ (zv_ za3_) zar_))))))) (ziX_ (zfT_ (zj_ (zX_ zbz_ (zly_ zgr_ (zj_ (zd_ 1 rfl))) (zs_ 1)))) (zav_ 0) (fun _=>dead1) (fun x_17=>zdg_) (fun x_17=>(ziX_ (ei_l (zd_ 2 rfl)) (zav_ 0) (fun _=>dead1) (fun x_18=>zdg_) (fun x_18=>(zmi_ (zj_ (zd_ 1 rfl))))))) fun x_8=>(at_ [(Sl.ow (owAt w_ (owI (gA K "Counter") ["breaks", "sums", "board", "levels"] (psO (owL Qq2) (psO (owL Qq2) (psO (owL Qq2) (psO (owLO (owLO (Qq4 K))) psNil)))))) x_8),(Sl.fz (tyL Qq2) c.1),(Sl.fz (tyL Qq2) c.2.1),(Sl.fz tyInt c.2.2.1),(Sl.fz (tyL Qq2) c.2.2.2)] (zgY_ (P:=(psO (owL Qq2) (psO (owL Qq2) (psO (owL Qq2) (psO (owLO (owLO (Qq4 K))) psNil))))) (P':=(psO (owL Qq2) (psO (owL Qq2) (psO (owL Qq2) (psO (owLO (owLO (Qq4 K))) (psO (owF (tyOpt tyStr)) psNil)))))) (ad:=fun c z=>(c.1,(c.2.1,(c.2.2.1,(c.2.2.2.1,(z,())))))) (ns:=["breaks", "sums", "board", "levels"]) (i:=0) rfl (by decide +kernel) (by decide) (zcc_ (zcc_ (zcc_ (zcc_ zfJ_)))) (zc2_ zA_) znV_ fun x_10=>(at_ [(Sl.ow (owAt w_ (owI (gA K "Counter") ["breaks", "sums", "board", "levels", "before"] (psO (owL Qq2) (psO (owL Qq2) (psO (owL Qq2) (psO (owLO (owLO (Qq4 K))) (psO (owF (tyOpt tyStr)) psNil))))))) x_10),(Sl.fz (tyL Qq2) c.1),(Sl.fz (tyL Qq2) c.2.1),(Sl.fz tyInt c.2.2.1),(Sl.fz (tyL Qq2) c.2.2.2)] (zeB_ (zhb_ (P:=(psO (owL Qq2) (psO (owL Qq2) (psO (owL Qq2) (psO (owLO (owLO (Qq4 K))) (psO (owF (tyOpt tyStr)) psNil)))))) (P':=(Qq7 K)) (ad:=fun c z=>(c.1,(c.2.1,(c.2.2.1,(c.2.2.2.1,(c.2.2.2.2.1,(z,()))))))) (ns:=["breaks", "sums", "board", "levels", "before"]) (O1:=(owD kInt tyBl)) (i:=0) rfl (by decide +kernel) (by decide) (zcc_ (zcc_ (zcc_ (zcc_ (zcc_ zfJ_))))) (zfs_ za3_) (zmb_ kInt tyBl) fun x_12=>(at_ [(Sl.ow (owAt w_ (Qq0 K)) x_12),(Sl.fz (tyL Qq2) c.1),(Sl.fz (tyL Qq2) c.2.1),(Sl.fz tyInt c.2.2.1),(Sl.fz (tyL Qq2) c.2.2.2)] (zU_ (.same (.dead (.dead (.dead (.dead .nil)))))))))))))))))))
theorem zdX_ {K:PySem.W.Frag}:RD_Counter___init__ K:=zgv_ (K:=K) (N:=Qn5) (O:=(owI (gA K "Counter") [] psNil)) (O2:=(Qq0 K)) (Q:=(csCons (tyL Qq2) (csCons (tyL Qq2) (csCons tyInt (csLast (tyL Qq2)))))) (t:=fun E=>zaw_ K) (ss:=fun c=>[(Sl.fz (tyL Qq2) c.1),(Sl.fz (tyL Qq2) c.2.1),(Sl.fz tyInt c.2.2.1),(Sl.fz (tyL Qq2) c.2.2.2)]) (g:=fun x c=>za8_ x c.1 c.2.1 c.2.2.1 c.2.2.2) (LS:=fun w_=>(fun x':Qq1=>[(Sl.ow (owAt w_ (Qq0 K)) x'),Sl.dead,Sl.dead,Sl.dead,Sl.dead])) 4 0 (zl_ (zl_ (zl_ zf_))) rfl (zaE_ (zaE_ (zaE_ zL_))) (fun _ _=>rfl) fun w_ x c E=>zdY_ w_ x c
theorem zg6_ {K:PySem.W.Frag}{E:XK}(c:(Int×Int)):EvS K (zbX_ K) E [(Sl.fz tyInt c.1),(Sl.fz tyInt c.2),Sl.dead,Sl.dead,Sl.dead] (zcw_ c.1 c.2) (fun _:Unit=>[]) (fun _:Unit=>[]) (owL tyInt) :=
 (zcV_ (i:=2) rfl (z1_ zb_) (zd1_ tyInt) fun found_1=>(at_ [(Sl.fz tyInt c.1),(Sl.fz tyInt c.2),(Sl.ow (owL tyInt) found_1),Sl.dead,Sl.dead] (zdO_ (i:=3) rfl zb_ (zX_ zbz_ (zX_ zbc_ (zd_ 0 rfl) (zs_ 2147483647)) (zs_ 48271)) fun number_here_2=>(at_ [(Sl.fz tyInt c.1),(Sl.fz tyInt c.2),(Sl.ow (owL tyInt) found_1),(Sl.fz tyInt number_here_2),Sl.dead] (zeg_ (LS:=(fun s_7:(Int×(List Int))=>[(Sl.fz tyInt c.1),(Sl.fz tyInt c.2),(Sl.ow (owL tyInt) s_7.2),(Sl.fz tyInt s_7.1),Sl.dead])) (zcT_ (L':=[(Sl.fz tyInt c.1),(Sl.fz tyInt c.2),(Sl.ow (owL tyInt) found_1),(Sl.fz tyInt number_here_2),Sl.dead]) (.same (.same (.same (.same (.same .nil))))) (zhw_ (LS:=(fun s_7:(Int×(List Int))=>[(Sl.fz tyInt c.1),(Sl.fz tyInt c.2),(Sl.ow (owL tyInt) s_7.2),(Sl.fz tyInt s_7.1),Sl.dead])) (s0:=(number_here_2,found_1)) (zfT_ (zj_ (zd_ 1 rfl))) (zav_ 4) fun s_7 x_9=>at_ [(Sl.fz tyInt c.1),(Sl.fz tyInt c.2),(Sl.ow (owL tyInt) s_7.2),(Sl.fz tyInt s_7.1),(Sl.fz tyInt x_9)] (zdO_ (i:=3) rfl zb_ (zX_ zbc_ (zX_ zbz_ (zX_ zbz_ (zX_ zfg_ (zd_ 3 rfl) (zd_ 3 rfl)) (zX_ zfg_ (zs_ 48271) (zd_ 3 rfl))) (zd_ 4 rfl)) (zs_ 2147483647)) fun number_here_10=>(at_ [(Sl.fz tyInt c.1),(Sl.fz tyInt c.2),(Sl.ow (owL tyInt) s_7.2),(Sl.fz tyInt number_here_10),(Sl.fz tyInt x_9)] (zeB_ (zhk_ (i:=2) rfl zb_ (zd_ 3 rfl) fun a_21=>(at_ [(Sl.fz tyInt c.1),(Sl.fz tyInt c.2),(Sl.ow (owL tyInt) (s_7.2++[a_21])),(Sl.fz tyInt number_here_10),(Sl.fz tyInt x_9)] (zU_ (.same (.same (.same (.same (.dead .nil))))))))))))) fun s_7=>(at_ [(Sl.fz tyInt c.1),(Sl.fz tyInt c.2),(Sl.ow (owL tyInt) s_7.2),(Sl.fz tyInt s_7.1),Sl.dead] (znR_ (i:=2) rfl)))))))
theorem zgz_ {K:PySem.W.Frag}:RD_law_stream K:=ze0_ (K:=K) (N:=Qn8) (C:=(csCons tyInt (csLast tyInt))) (O:=(owL tyInt)) (t:=fun E=>zbX_ K) (ss:=fun c=>[(Sl.fz tyInt c.1),(Sl.fz tyInt c.2)]) (f:=fun c=>zcw_ c.1 c.2) 2 3 (zl_ zf_) rfl (zaE_ zL_) fun c E=>zg6_ c
theorem zhD_ {K:PySem.W.Frag}{E:XK}(c:Int):EvS K (zcf_ K) E [(Sl.fz tyInt c)] (zds_ c) (fun _:Unit=>[]) (fun _:Unit=>[]) (owL tyInt) :=
 (zef_ (z1_ zb_) (zd4_ (ei_l (EvO.fr (zdJ_ (zK_ (zd_ 0 rfl) (zj_ (zs_ 36)))))) (zav_ 0) (fun _=>dead1) (fun x_4=>zdg_) (fun x_4=>(zX_ zcE_ (zd_ 0 rfl) (zs_ 11)))))
theorem zhs_ {K:PySem.W.Frag}:RD_law_kinds K:=ze0_ (K:=K) (N:=Qn22) (C:=(csLast tyInt)) (O:=(owL tyInt)) (t:=fun E=>zcf_ K) (ss:=fun c=>[(Sl.fz tyInt c)]) (f:=fun c=>zds_ c) 1 0 zf_ rfl zL_ fun c E=>zhD_ c
theorem zhg_ {K:PySem.W.Frag}{E:XK}(c:Int):EvS K (zci_ K) E [(Sl.fz tyInt c),Sl.dead,Sl.dead,Sl.dead] (zdp_ c) (fun _:Unit=>[]) (fun _:Unit=>[]) (owL Qq2) :=
 (zcV_ (i:=1) rfl (z1_ (zY_ (zt_ zb_ (zq_ zb_)))) (zd1_ Qq2) fun wires_1=>(at_ [(Sl.fz tyInt c),(Sl.ow (owL Qq2) wires_1),Sl.dead,Sl.dead] (zcV_ (i:=2) rfl (z1_ zb_) (zdJ_ (zK_ (zd_ 0 rfl) (zj_ (zs_ 36)))) fun numbers_2=>zlq_ (i:=2) rfl (at_ [(Sl.fz tyInt c),(Sl.ow (owL Qq2) wires_1),(Sl.fz (tyL tyInt) numbers_2),Sl.dead] (zeg_ (LS:=(fun s_6:(List (Int×Int))=>[(Sl.fz tyInt c),(Sl.ow (owL Qq2) s_6),(Sl.fz (tyL tyInt) numbers_2),Sl.dead])) (zcT_ (L':=[(Sl.fz tyInt c),(Sl.ow (owL Qq2) wires_1),(Sl.fz (tyL tyInt) numbers_2),Sl.dead]) (.same (.same (.same (.same .nil)))) (zhw_ (LS:=(fun s_6:(List (Int×Int))=>[(Sl.fz tyInt c),(Sl.ow (owL Qq2) s_6),(Sl.fz (tyL tyInt) numbers_2),Sl.dead])) (s0:=wires_1) (zlQ_ (zK_ (zs_ 1) (zj_ (zs_ 37)))) (zav_ 3) fun s_6 x_10=>at_ [(Sl.fz tyInt c),(Sl.ow (owL Qq2) s_6),(Sl.fz (tyL tyInt) numbers_2),(Sl.fz tyInt x_10)] (zeB_ (zeg_ (LS:=(fun s_24:(List (Int×Int))=>[(Sl.fz tyInt c),(Sl.ow (owL Qq2) s_24),(Sl.fz (tyL tyInt) numbers_2),(Sl.fz tyInt x_10)])) (s_if (zdI_ (zX_ zl5_ (zX_ zbc_ (zX_ zcE_ (zX_ zec_ (zd_ 2 rfl) (zX_ zdB_ (zd_ 3 rfl) (zs_ 1))) (zs_ 3)) (zs_ 4)) (zX_ zbc_ (zd_ 0 rfl) (zs_ 5)))) (zeB_ (zhk_ (i:=1) rfl (zY_ (zt_ zb_ (zq_ zb_))) (zoz_ (zl_ zf_) (zK_ (zX_ zbz_ (zs_ 1) (zX_ zbc_ (zX_ zcE_ (zX_ zec_ (zd_ 2 rfl) (zX_ zdB_ (zd_ 3 rfl) (zs_ 1))) (zs_ 12)) (zs_ 40))) (zj_ (zd_ 3 rfl)))) fun a_37=>(at_ [(Sl.fz tyInt c),(Sl.ow (owL Qq2) (s_6++[a_37])),(Sl.fz (tyL tyInt) numbers_2),(Sl.fz tyInt x_10)] (zU_ (.same (.same (.same (.same .nil)))))))) (zU_ (.same (.same (.same (.same .nil)))))) fun s_24=>(at_ [(Sl.fz tyInt c),(Sl.ow (owL Qq2) s_24),(Sl.fz (tyL tyInt) numbers_2),(Sl.fz tyInt x_10)] (zU_ (.same (.same (.same (.dead .nil)))))))))) fun s_6=>(at_ [(Sl.fz tyInt c),(Sl.ow (owL Qq2) s_6),(Sl.fz (tyL tyInt) numbers_2),Sl.dead] (znR_ (i:=1) rfl)))))))
theorem zhJ_ {K:PySem.W.Frag}:RD_law_board K:=ze0_ (K:=K) (N:=Qn12) (C:=(csLast tyInt)) (O:=(owL Qq2)) (t:=fun E=>zci_ K) (ss:=fun c=>[(Sl.fz tyInt c)]) (f:=fun c=>zdp_ c) 1 3 zf_ rfl zL_ fun c E=>zhg_ c
theorem zfj_ {K:PySem.W.Frag}{E:XK}(c:Qq1):EvS K (zbi_ K) E [(Sl.fz (Qq3 K) c)] (zbF_ c) (fun _:Unit=>[]) (fun _:Unit=>[]) (owL tyInt) :=
 (zef_ (z1_ zb_) (ziz_ (zjT_ zqk_ zqA_ zpB_) (zj_ (zb4_ (ns:=Qn0) (by decide +kernel) (n:=5) rfl (at_s (at_s (at_s (at_s (at_s at_0))))) (zd_ 0 rfl)))))
theorem zfn_ {K:PySem.W.Frag}:RD_Counter_overs K:=ze0_ (K:=K) (N:=Qn4) (C:=(csLast (Qq3 K))) (O:=(owL tyInt)) (t:=fun E=>zbi_ K) (ss:=fun c=>[(Sl.fz (Qq3 K) c)]) (f:=fun c=>zbF_ c) 1 0 zf_ rfl zL_ fun c E=>zfj_ c
theorem zfZ_ {K:PySem.W.Frag}{E:XK}(c:((List Int)×Int)):EvS K (zbG_ K) E [(Sl.fz (tySc K) c.1),(Sl.fz tyInt c.2)] (zb7_ c.1 c.2) (fun _:Unit=>[]) (fun _:Unit=>[]) (owF tyInt) :=
 (zeg_ (LS:=(fun _:Unit=>[(Sl.fz (tySc K) c.1),(Sl.fz tyInt c.2)])) (s_if (zdI_ (zX_ zl5_ (zd_ 1 rfl) (zly_ zmt_ (zj_ (zd_ 0 rfl))))) (zef_ (zv_ zb_) (EvF.ow (zX_ zoU_ (zd_ 0 rfl) (zd_ 1 rfl)))) (zU_ (.same (.same .nil)))) fun _=>(at_ [(Sl.fz (tySc K) c.1),(Sl.fz tyInt c.2)] (zef_ (zv_ zb_) (EvF.ow (zs_ 0)))))
theorem zgo_ {K:PySem.W.Frag}:RD_law_cell_at K:=ze0_ (K:=K) (N:=Qn14) (C:=(csCons (tySc K) (csLast tyInt))) (O:=(owF tyInt)) (t:=fun E=>zbG_ K) (ss:=fun c=>[(Sl.fz (tySc K) c.1),(Sl.fz tyInt c.2)]) (f:=fun c=>zb7_ c.1 c.2) 2 0 (zl_ zf_) rfl (zaE_ zL_) fun c E=>zfZ_ c
theorem zho_ {K:PySem.W.Frag}{E:XK}(c:(Int×Int)):EvS K (zcr_ K) E [(Sl.fz tyInt c.1),(Sl.fz tyInt c.2),Sl.dead] (zdo_ c.1 c.2) (fun _:Unit=>[]) (fun _:Unit=>[]) (owF Qq2) :=
 (zdO_ (i:=2) rfl zb_ (zX_ zbz_ (zs_ 1) (zX_ zbc_ (zX_ zcE_ (zd_ 0 rfl) (zs_ 5)) (zs_ 36))) fun first_1=>(at_ [(Sl.fz tyInt c.1),(Sl.fz tyInt c.2),(Sl.fz tyInt first_1)] (zef_ (zv_ (zY_ (zt_ zb_ (zq_ zb_)))) (EvF.ow (zoz_ (zl_ zf_) (zK_ (zd_ 2 rfl) (zj_ (zly_ zp6_ (zK_ (zs_ 36) (zj_ (zX_ zbz_ (zd_ 2 rfl) (zX_ zbc_ (zX_ zcE_ (zd_ 0 rfl) (zs_ 180)) (zd_ 1 rfl)))))))))))))
theorem zhQ_ {K:PySem.W.Frag}:RD_law_field K:=ze0_ (K:=K) (N:=Qn17) (C:=(csCons tyInt (csLast tyInt))) (O:=(owF Qq2)) (t:=fun E=>zcr_ K) (ss:=fun c=>[(Sl.fz tyInt c.1),(Sl.fz tyInt c.2)]) (f:=fun c=>zdo_ c.1 c.2) 2 1 (zl_ zf_) rfl (zaE_ zL_) fun c E=>zho_ c
theorem ziN_ {K:PySem.W.Frag}{E:XK}(c:(Int×(Int×(List Int)))):EvS K (zdj_ K) E [(Sl.fz tyInt c.1),(Sl.fz tyInt c.2.1),(Sl.fz (tyL tyInt) c.2.2),Sl.dead,Sl.dead,Sl.dead,Sl.dead,Sl.dead,Sl.dead,Sl.dead,Sl.dead,Sl.dead] (zdS_ c.1 c.2.1 c.2.2) (fun _:Unit=>[]) (fun _:Unit=>[]) (owF tyStr) :=
 (zdO_ (i:=3) rfl zA_ (zcR_ SG) fun signs_1=>(at_ [(Sl.fz tyInt c.1),(Sl.fz tyInt c.2.1),(Sl.fz (tyL tyInt) c.2.2),(Sl.fz tyStr signs_1),Sl.dead,Sl.dead,Sl.dead,Sl.dead,Sl.dead,Sl.dead,Sl.dead,Sl.dead] (zcV_ (i:=4) rfl (z1_ zb_) (zdJ_ (zK_ (zd_ 0 rfl) (zj_ (zs_ 36)))) fun numbers_2=>zlq_ (i:=4) rfl (at_ [(Sl.fz tyInt c.1),(Sl.fz tyInt c.2.1),(Sl.fz (tyL tyInt) c.2.2),(Sl.fz tyStr signs_1),(Sl.fz (tyL tyInt) numbers_2),Sl.dead,Sl.dead,Sl.dead,Sl.dead,Sl.dead,Sl.dead,Sl.dead] (zdO_ (i:=5) rfl zA_ (zcR_ []) fun text_6=>(at_ [(Sl.fz tyInt c.1),(Sl.fz tyInt c.2.1),(Sl.fz (tyL tyInt) c.2.2),(Sl.fz tyStr signs_1),(Sl.fz (tyL tyInt) numbers_2),(Sl.fz tyStr text_6),Sl.dead,Sl.dead,Sl.dead,Sl.dead,Sl.dead,Sl.dead] (zeg_ (LS:=(fun s_7:(List Nat)=>[(Sl.fz tyInt c.1),(Sl.fz tyInt c.2.1),(Sl.fz (tyL tyInt) c.2.2),(Sl.fz tyStr signs_1),(Sl.fz (tyL tyInt) numbers_2),(Sl.fz tyStr s_7),Sl.dead,Sl.dead,Sl.dead,Sl.dead,Sl.dead,Sl.dead])) (zcT_ (L':=[(Sl.fz tyInt c.1),(Sl.fz tyInt c.2.1),(Sl.fz (tyL tyInt) c.2.2),(Sl.fz tyStr signs_1),(Sl.fz (tyL tyInt) numbers_2),(Sl.fz tyStr text_6),Sl.dead,Sl.dead,Sl.dead,Sl.dead,Sl.dead,Sl.dead]) (.same (.same (.same (.same (.same (.same (.same (.same (.same (.same (.same (.same .nil)))))))))))) (zhw_ (LS:=(fun s_7:(List Nat)=>[(Sl.fz tyInt c.1),(Sl.fz tyInt c.2.1),(Sl.fz (tyL tyInt) c.2.2),(Sl.fz tyStr signs_1),(Sl.fz (tyL tyInt) numbers_2),(Sl.fz tyStr s_7),Sl.dead,Sl.dead,Sl.dead,Sl.dead,Sl.dead,Sl.dead])) (s0:=text_6) (zfT_ (zj_ (zs_ 36))) (zav_ 6) fun s_7 x_9=>at_ [(Sl.fz tyInt c.1),(Sl.fz tyInt c.2.1),(Sl.fz (tyL tyInt) c.2.2),(Sl.fz tyStr signs_1),(Sl.fz (tyL tyInt) numbers_2),(Sl.fz tyStr s_7),(Sl.fz tyInt x_9),Sl.dead,Sl.dead,Sl.dead,Sl.dead,Sl.dead] (zdO_ (i:=7) rfl zb_ (zX_ zcE_ (zX_ zec_ (zd_ 4 rfl) (zd_ 6 rfl)) (zs_ 7)) fun step_10=>(at_ [(Sl.fz tyInt c.1),(Sl.fz tyInt c.2.1),(Sl.fz (tyL tyInt) c.2.2),(Sl.fz tyStr signs_1),(Sl.fz (tyL tyInt) numbers_2),(Sl.fz tyStr s_7),(Sl.fz tyInt x_9),(Sl.fz tyInt step_10),Sl.dead,Sl.dead,Sl.dead,Sl.dead] (zdO_ (i:=8) rfl zb_ (zX_ zcE_ (zX_ zec_ (zd_ 2 rfl) (zd_ 6 rfl)) (zs_ 5)) fun low_15=>(at_ [(Sl.fz tyInt c.1),(Sl.fz tyInt c.2.1),(Sl.fz (tyL tyInt) c.2.2),(Sl.fz tyStr signs_1),(Sl.fz (tyL tyInt) numbers_2),(Sl.fz tyStr s_7),(Sl.fz tyInt x_9),(Sl.fz tyInt step_10),(Sl.fz tyInt low_15),Sl.dead,Sl.dead,Sl.dead] (zdO_ (i:=9) rfl zb_ (zX_ zbz_ (zd_ 8 rfl) (zX_ zbc_ (zd_ 7 rfl) (zs_ 2))) fun two_20=>(at_ [(Sl.fz tyInt c.1),(Sl.fz tyInt c.2.1),(Sl.fz (tyL tyInt) c.2.2),(Sl.fz tyStr signs_1),(Sl.fz (tyL tyInt) numbers_2),(Sl.fz tyStr s_7),(Sl.fz tyInt x_9),(Sl.fz tyInt step_10),(Sl.fz tyInt low_15),(Sl.fz tyInt two_20),Sl.dead,Sl.dead] (zcV_ (i:=10) rfl (z1_ zb_) (zhO_ (zl_ (zl_ (zl_ (zl_ zf_)))) (zem_ (zem_ (zem_ (zem_ zdK_)))) (zK_ (zX_ zbz_ (zs_ 1) (zX_ zbc_ (zd_ 8 rfl) (zs_ 10))) (zK_ (zX_ zbz_ (zs_ 1) (zX_ zbc_ (zd_ 7 rfl) (zs_ 10))) (zK_ (zX_ zbc_ (zd_ 9 rfl) (zs_ 37)) (zK_ (zX_ zbc_ (zd_ 7 rfl) (zs_ 37)) (zj_ (zX_ zbz_ (zs_ 1) (zX_ zbc_ (zd_ 9 rfl) (zs_ 10))))))))) fun some_25=>zlq_ (i:=10) rfl (at_ [(Sl.fz tyInt c.1),(Sl.fz tyInt c.2.1),(Sl.fz (tyL tyInt) c.2.2),(Sl.fz tyStr signs_1),(Sl.fz (tyL tyInt) numbers_2),(Sl.fz tyStr s_7),(Sl.fz tyInt x_9),(Sl.fz tyInt step_10),(Sl.fz tyInt low_15),(Sl.fz tyInt two_20),(Sl.fz (tyL tyInt) some_25),Sl.dead] (zeB_ (zdO_ (i:=5) rfl zA_ (zX_ zdC_ (zd_ 5 rfl) (zX_ zgU_ (zd_ 3 rfl) (zX_ zec_ (zd_ 10 rfl) (zX_ zbc_ (zX_ zec_ (zd_ 2 rfl) (zd_ 6 rfl)) (zs_ 5))))) fun text_51=>(at_ [(Sl.fz tyInt c.1),(Sl.fz tyInt c.2.1),(Sl.fz (tyL tyInt) c.2.2),(Sl.fz tyStr signs_1),(Sl.fz (tyL tyInt) numbers_2),(Sl.fz tyStr text_51),(Sl.fz tyInt x_9),(Sl.fz tyInt step_10),(Sl.fz tyInt low_15),(Sl.fz tyInt two_20),(Sl.fz (tyL tyInt) some_25),Sl.dead] (zU_ (.same (.same (.same (.same (.same (.same (.dead (.dead (.dead (.dead (.dead (.same .nil)))))))))))))))))))))))))) fun s_7=>(at_ [(Sl.fz tyInt c.1),(Sl.fz tyInt c.2.1),(Sl.fz (tyL tyInt) c.2.2),(Sl.fz tyStr signs_1),(Sl.fz (tyL tyInt) numbers_2),(Sl.fz tyStr s_7),Sl.dead,Sl.dead,Sl.dead,Sl.dead,Sl.dead,Sl.dead] (zdO_ (i:=11) rfl zA_ (zX_ zdC_ (zX_ zdC_ (zX_ zgU_ (zd_ 3 rfl) (zX_ zbc_ (zd_ 0 rfl) (zs_ 37))) (zX_ zgU_ (zd_ 3 rfl) (zX_ zbc_ (zd_ 1 rfl) (zs_ 37)))) (zX_ zgU_ (zd_ 3 rfl) (zX_ zbc_ (zX_ zec_ (zd_ 4 rfl) (zs_ 0)) (zs_ 37)))) fun mark_63=>(at_ [(Sl.fz tyInt c.1),(Sl.fz tyInt c.2.1),(Sl.fz (tyL tyInt) c.2.2),(Sl.fz tyStr signs_1),(Sl.fz (tyL tyInt) numbers_2),(Sl.fz tyStr s_7),Sl.dead,Sl.dead,Sl.dead,Sl.dead,Sl.dead,(Sl.fz tyStr mark_63)] (zef_ (zv_ zA_) (EvF.ow (zX_ zdC_ (zX_ zdC_ (zd_ 5 rfl) (zd_ 11 rfl)) (zX_ zgU_ (zd_ 3 rfl) (zX_ zbc_ (zX_ zcE_ (zd_ 0 rfl) (zs_ 37)) (zs_ 37))))))))))))))))
theorem ziP_ {K:PySem.W.Frag}:RD_law_card K:=ze0_ (K:=K) (N:=Qn2) (C:=(csCons tyInt (csCons tyInt (csLast (tyL tyInt))))) (O:=(owF tyStr)) (t:=fun E=>zdj_ K) (ss:=fun c=>[(Sl.fz tyInt c.1),(Sl.fz tyInt c.2.1),(Sl.fz (tyL tyInt) c.2.2)]) (f:=fun c=>zdS_ c.1 c.2.1 c.2.2) 3 9 (zl_ (zl_ zf_)) rfl (zaE_ (zaE_ zL_)) fun c E=>ziN_ c
theorem zgq_ {K:PySem.W.Frag}{E:XK}(w_:V) (x:Qq6) (c:Int):EvS K (zbW_ K) E [(Sl.ow (owAt w_ (Qq4 K)) x),(Sl.fz tyInt c),Sl.dead] (zcy_ x c) (fun x':Qq6=>[(Sl.ow (owAt w_ (Qq4 K)) x'),Sl.dead,Sl.dead]) (fun _:Unit=>[]) (owRM w_ (Qq4 K) (owF tyNon)) :=
 (zdO_ (i:=2) rfl zb_ (zX_ zbz_ (zb4_ (ns:=Qn6) (by decide +kernel) (n:=2) rfl (at_s (at_s at_0)) (zbK_ (P:=(psO (owF tyInt) (psO (owF tyInt) (psO (owF tyInt) (psO (owF tyBl) psNil))))) 0 rfl)) (zd_ 1 rfl)) fun risen_1=>(at_ [(Sl.ow (owAt w_ (Qq4 K)) x),(Sl.fz tyInt c),(Sl.fz tyInt risen_1)] (zeg_ (LS:=(fun s_9:Qq6=>[(Sl.ow (owAt w_ (Qq4 K)) s_9),(Sl.fz tyInt c),(Sl.fz tyInt risen_1)])) (s_if (zdI_ (zX_ zpm_ (zd_ 2 rfl) (zb4_ (ns:=Qn6) (by decide +kernel) (n:=1) rfl (at_s at_0) (zbK_ (P:=(psO (owF tyInt) (psO (owF tyInt) (psO (owF tyInt) (psO (owF tyBl) psNil))))) 0 rfl)))) (zeB_ (zgu_ (i:=0) (n:=3) (by decide +kernel) rfl (by decide) (zdW_ (zdW_ (zdW_ zjv_))) za3_ (zkN_ true) (ziM_ (zes_ rfl)) fun x_11=>(at_ [(Sl.ow (owAt w_ (Qq4 K)) x_11),(Sl.fz tyInt c),(Sl.fz tyInt risen_1)] (zU_ (.same (.same (.same .nil))))))) (zU_ (.same (.same (.same .nil))))) fun s_9=>(at_ [(Sl.ow (owAt w_ (Qq4 K)) s_9),(Sl.fz tyInt c),(Sl.fz tyInt risen_1)] (zeB_ (zgu_ (i:=0) (n:=2) (by decide +kernel) rfl (by decide) (zdW_ (zdW_ zjv_)) zb_ (zX_ zbc_ (zd_ 2 rfl) (zb4_ (ns:=Qn6) (by decide +kernel) (n:=1) rfl (at_s at_0) (zbK_ (P:=(psO (owF tyInt) (psO (owF tyInt) (psO (owF tyInt) (psO (owF tyBl) psNil))))) 0 rfl))) (ziM_ (zes_ rfl)) fun x_14=>(at_ [(Sl.ow (owAt w_ (Qq4 K)) x_14),(Sl.fz tyInt c),(Sl.fz tyInt risen_1)] (zU_ (.same (.dead (.dead .nil)))))))))))
theorem zg0_ {K:PySem.W.Frag}:RD_Wheel_rise K:=zgv_ (K:=K) (N:=["self", "value", "risen"]) (O:=(Qq4 K)) (O2:=(Qq4 K)) (Q:=(csLast tyInt)) (t:=fun E=>zbW_ K) (ss:=fun c=>[(Sl.fz tyInt c)]) (g:=fun x c=>zcy_ x c) (LS:=fun w_=>(fun x':Qq6=>[(Sl.ow (owAt w_ (Qq4 K)) x'),Sl.dead,Sl.dead])) 1 1 zf_ rfl zL_ (fun _ _=>rfl) fun w_ x c E=>zgq_ w_ x c
theorem zeE_ {K:PySem.W.Frag}{E:XK}(c:Qq6):EvS K (zaV_ K) E [(Sl.fz (Qq5 K) c)] (zb0_ c) (fun _:Unit=>[]) (fun _:Unit=>[]) (owF tyBl) :=
 (zef_ (zv_ za3_) (EvF.ow (zb4_ (ns:=Qn6) (by decide +kernel) (n:=3) rfl (at_s (at_s (at_s at_0))) (zd_ 0 rfl))))
theorem zeP_ {K:PySem.W.Frag}:RD_Wheel_ran_over K:=ze0_ (K:=K) (N:=Qn4) (C:=(csLast (Qq5 K))) (O:=(owF tyBl)) (t:=fun E=>zaV_ K) (ss:=fun c=>[(Sl.fz (Qq5 K) c)]) (f:=fun c=>zb0_ c) 1 0 zf_ rfl zL_ fun c E=>zeE_ c
theorem zc0_ {K:PySem.W.Frag}{E:XK}(w_:V) (x:Qq1) (c:(Int×(List Int))):EvS K (zaa_ K) E [(Sl.ow (owAt w_ (Qq0 K)) x),(Sl.fz tyInt c.1),(Sl.fz (tyL tyInt) c.2),Sl.dead,Sl.dead,Sl.dead] (zat_ x c.1 c.2) (fun x':Qq1=>[(Sl.ow (owAt w_ (Qq0 K)) x'),Sl.dead,Sl.dead,Sl.dead,Sl.dead,Sl.dead]) (fun _:Unit=>[]) (owRM w_ (Qq0 K) (owF tyNon)) :=
 (zeB_ (zeg_ (LS:=(fun s_1:Qq1=>[(Sl.ow (owAt w_ (Qq0 K)) s_1),(Sl.fz tyInt c.1),(Sl.fz (tyL tyInt) c.2),Sl.dead,Sl.dead,Sl.dead])) (zcT_ (L':=[(Sl.ow (owAt w_ (Qq0 K)) x),(Sl.fz tyInt c.1),(Sl.fz (tyL tyInt) c.2),Sl.dead,Sl.dead,Sl.dead]) (.same (.same (.same (.same (.same (.same .nil)))))) (zhw_ (LS:=(fun s_1:Qq1=>[(Sl.ow (owAt w_ (Qq0 K)) s_1),(Sl.fz tyInt c.1),(Sl.fz (tyL tyInt) c.2),Sl.dead,Sl.dead,Sl.dead])) (s0:=x) (zj6_ (zj_ (zd_ 2 rfl))) (zjr_ (zl_ zf_) (zg9_ 3 (zgB_ (zav_ 4)))) fun s_1 x_3=>at_ [(Sl.ow (owAt w_ (Qq0 K)) s_1),(Sl.fz tyInt c.1),(Sl.fz (tyL tyInt) c.2),(Sl.fz tyInt x_3.1),(Sl.fz tyInt x_3.2),Sl.dead] (zoG_ (w:=5) rfl (by decide) (zmy_ (zmy_ (zlU_ (ns:=Qn0) (by decide +kernel) (n:=3) rfl (zjt_ (zjt_ (zjt_ zpR_))) (zgC_ (zdE_ rfl))) (zd_ 1 rfl)) (zd_ 3 rfl)) fun u_14 y_13=>(at_ [(Sl.ow (owPn u_14 (Qq4 K) y_13.2 (owAt w_ (Qq0 K))) y_13.1),(Sl.fz tyInt c.1),(Sl.fz (tyL tyInt) c.2),(Sl.fz tyInt x_3.1),(Sl.fz tyInt x_3.2),(Sl.fz (tyIs u_14) ())] (znm_ (i:=0) (m := "rise") (ns:=Qn6) (by decide +kernel) (zce_ (zm_ (zv_ zb_) (zm_ (zv_ zb_) (zm_ (zv_ zb_) (zm_ (zv_ za3_) zar_))))) (zh8_ (w:=5) rfl rfl) (zq_ zb_) (zj_ (zd_ 4 rfl)) fun x_18=>(at_ [(Sl.ow (owPn u_14 (Qq4 K) y_13.2 (owAt w_ (Qq0 K))) x_18),(Sl.fz tyInt c.1),(Sl.fz (tyL tyInt) c.2),(Sl.fz tyInt x_3.1),(Sl.fz tyInt x_3.2),(Sl.fz (tyIs u_14) ())] (zeB_ (zeg_ (LS:=(fun s_21:Qq1=>[(Sl.ow (owAt w_ (Qq0 K)) s_21),(Sl.fz tyInt c.1),(Sl.fz (tyL tyInt) c.2),(Sl.fz tyInt x_3.1),(Sl.fz tyInt x_3.2),Sl.dead])) (s_if (zdI_ (zf1_ (m := "ran_over") (ns:=Qn6) (by decide +kernel) (znj_ (O':=(Qq4 K)) (i:=0) (w:=5) rfl rfl))) (zom_ (i:=0) rfl (zcT_ (L':=[(Sl.ow (owAt w_ (Qq0 K)) (y_13.2 x_18)),(Sl.fz tyInt c.1),(Sl.fz (tyL tyInt) c.2),(Sl.fz tyInt x_3.1),(Sl.fz tyInt x_3.2),Sl.dead]) (.same (.same (.same (.same (.same (.dead .nil)))))) (zeB_ (zn8_ (i:=0) (zoY_ (ns:=Qn0) (by decide +kernel) (n:=5) rfl (zjt_ (zjt_ (zjt_ (zjt_ (zjt_ zpR_))))) (ziM_ (zes_ rfl))) za3_ zb_ (zkN_ true) (zd_ 3 rfl) fun x_26=>(at_ [(Sl.ow (owAt w_ (Qq0 K)) x_26),(Sl.fz tyInt c.1),(Sl.fz (tyL tyInt) c.2),(Sl.fz tyInt x_3.1),(Sl.fz tyInt x_3.2),Sl.dead] (zU_ (.same (.same (.same (.same (.same (.same .nil)))))))))))) (zom_ (i:=0) rfl (zcT_ (L':=[(Sl.ow (owAt w_ (Qq0 K)) (y_13.2 x_18)),(Sl.fz tyInt c.1),(Sl.fz (tyL tyInt) c.2),(Sl.fz tyInt x_3.1),(Sl.fz tyInt x_3.2),Sl.dead]) (.same (.same (.same (.same (.same (.dead .nil)))))) (zU_ (.same (.same (.same (.same (.same (.same .nil)))))))))) fun s_21=>(at_ [(Sl.ow (owAt w_ (Qq0 K)) s_21),(Sl.fz tyInt c.1),(Sl.fz (tyL tyInt) c.2),(Sl.fz tyInt x_3.1),(Sl.fz tyInt x_3.2),Sl.dead] (zU_ (.same (.same (.same (.dead (.dead (.same .nil)))))))))))))))) fun s_1=>(at_ [(Sl.ow (owAt w_ (Qq0 K)) s_1),(Sl.fz tyInt c.1),(Sl.fz (tyL tyInt) c.2),Sl.dead,Sl.dead,Sl.dead] (zU_ (.same (.dead (.dead (.same (.same (.same .nil))))))))))
theorem zdh_ {K:PySem.W.Frag}:RD_Counter_raise_level K:=zgv_ (K:=K) (N:=Qn13) (O:=(Qq0 K)) (O2:=(Qq0 K)) (Q:=(csCons tyInt (csLast (tyL tyInt)))) (t:=fun E=>zaa_ K) (ss:=fun c=>[(Sl.fz tyInt c.1),(Sl.fz (tyL tyInt) c.2)]) (g:=fun x c=>zat_ x c.1 c.2) (LS:=fun w_=>(fun x':Qq1=>[(Sl.ow (owAt w_ (Qq0 K)) x'),Sl.dead,Sl.dead,Sl.dead,Sl.dead,Sl.dead])) 2 3 (zl_ zf_) rfl (zaE_ zL_) (fun _ _=>rfl) fun w_ x c E=>zc0_ w_ x c
theorem zgf_ {K:PySem.W.Frag}{E:XK}(c:Qq6):EvS K (zbJ_ K) E [(Sl.fz (Qq5 K) c)] (zb9_ c) (fun _:Unit=>[]) (fun _:Unit=>[]) (owF tyStr) :=
 (zef_ (zv_ zA_) (EvF.ow (znE_ znu_ (zly_ zqE_ (zj_ (zb4_ (ns:=Qn6) (by decide +kernel) (n:=2) rfl (at_s (at_s at_0)) (zd_ 0 rfl)))) (zj_ (zb4_ (ns:=Qn6) (by decide +kernel) (n:=0) rfl at_0 (zd_ 0 rfl))))))
theorem zgg_ {K:PySem.W.Frag}:RD_Wheel_shown K:=ze0_ (K:=K) (N:=Qn4) (C:=(csLast (Qq5 K))) (O:=(owF tyStr)) (t:=fun E=>zbJ_ K) (ss:=fun c=>[(Sl.fz (Qq5 K) c)]) (f:=fun c=>zb9_ c) 1 0 zf_ rfl zL_ fun c E=>zgf_ c
theorem zkv_ {K:PySem.W.Frag}{E:XK}(c:((List Nat)×(Int×Int))):EvS K (zeb_ K) E [(Sl.fz tyStr c.1),(Sl.fz Qq2 c.2)] (zeZ_ c.1 c.2) (fun _:Unit=>[]) (fun _:Unit=>[]) (owF tyStr) :=
 (zef_ (zv_ zA_) (EvF.ow (zlh_ (zd_ 0 rfl) (zlk_ (zX_ zdB_ (ziE_ (i:=0) at_0 (zd_ 1 rfl)) (zs_ 1))) (zlk_ (ziE_ (i:=1) (at_s zje_) (zd_ 1 rfl))))))
theorem zja_ {K:PySem.W.Frag}:RD_part_of K:=ze0_ (K:=K) (N:=Qn7) (C:=(csCons tyStr (csLast Qq2))) (O:=(owF tyStr)) (t:=fun E=>zeb_ K) (ss:=fun c=>[(Sl.fz tyStr c.1),(Sl.fz Qq2 c.2)]) (f:=fun c=>zeZ_ c.1 c.2) 2 0 (zl_ zf_) rfl (zaE_ zL_) fun c E=>zkv_ c
theorem zdx_ {K:PySem.W.Frag}{E:XK}(c:(Qq1×Int)):EvS K (zai_ K) E [(Sl.fz (Qq3 K) c.1),(Sl.fz tyInt c.2),Sl.dead] (zaH_ c.1 c.2) (fun _:Unit=>[]) (fun _:Unit=>[]) (owF tyStr) :=
 (zcV_ (i:=2) rfl (z1_ zA_) (zhO_ zf_ zdK_ (zj_ (zX_ znp_ (zcR_ [42]) (zX_ zdB_ (zX_ zbz_ (zs_ 1) (zly_ zgr_ (zj_ (zb4_ (ns:=Qn0) (by decide +kernel) (n:=0) rfl at_0 (zd_ 0 rfl))))) (zd_ 1 rfl))))) fun words_1=>(at_ [(Sl.fz (Qq3 K) c.1),(Sl.fz tyInt c.2),(Sl.ow (owL tyStr) words_1)] (zi4_ (i:=2) rfl zA_ (EvO.fr (O:=(owL tyStr)) (zd4_ (ei_l (EvO.fr (zpS_ (zb4_ (ns:=Qn0) (by decide +kernel) (n:=0) rfl at_0 (zd_ 0 rfl)) zpV_ (zlk_ (zd_ 1 rfl))))) (zav_ 0) (fun _=>dead1) (fun x_16=>zdg_) (fun x_16=>(zR_ (zK_ (zkI_ (zb4_ (ns:=Qn0) (by decide +kernel) (n:=4) rfl (at_s (at_s (at_s (at_s at_0)))) (zd_ 1 rfl))) (zj_ (zd_ 0 rfl))))))) fun a_23=>(at_ [(Sl.fz (Qq3 K) c.1),(Sl.fz tyInt c.2),(Sl.ow (owL tyStr) (words_1++a_23))] (zi4_ (i:=2) rfl zA_ (EvO.fr (O:=(owL tyStr)) (zd4_ (ei_l (zX_ zec_ (zb4_ (ns:=Qn0) (by decide +kernel) (n:=3) rfl (at_s (at_s (at_s at_0))) (zd_ 0 rfl)) (zd_ 1 rfl))) (zav_ 0) (fun _=>dead1) (fun x_27=>zdg_) (fun x_27=>(zf1_ (m := "shown") (ns:=Qn6) (by decide +kernel) (zd_ 0 rfl))))) fun a_30=>(at_ [(Sl.fz (Qq3 K) c.1),(Sl.fz tyInt c.2),(Sl.ow (owL tyStr) ((words_1++a_23)++a_30))] (zef_ (zv_ zA_) (EvF.ow (znE_ zjh_ (zcR_ [32]) (zj_ (zfR_ 2 rfl)))))))))))
theorem zdz_ {K:PySem.W.Frag}:RD_Counter_total_line K:=ze0_ (K:=K) (N:=["self", "level", "words"]) (C:=(csCons (Qq3 K) (csLast tyInt))) (O:=(owF tyStr)) (t:=fun E=>zai_ K) (ss:=fun c=>[(Sl.fz (Qq3 K) c.1),(Sl.fz tyInt c.2)]) (f:=fun c=>zaH_ c.1 c.2) 2 1 (zl_ zf_) rfl (zaE_ zL_) fun c E=>zdx_ c
theorem zf9_ {K:PySem.W.Frag}{E:XK}(w_:V) (x:Qq6) (c:Unit):EvS K (zbH_ K) E [(Sl.ow (owAt w_ (Qq4 K)) x)] (zdc_ x) (fun x':Qq6=>[(Sl.ow (owAt w_ (Qq4 K)) x')]) (fun _:Unit=>[]) (owRM w_ (Qq4 K) (owF tyNon)) :=
 (zgu_ (i:=0) (n:=2) (by decide +kernel) rfl (by decide) (zdW_ (zdW_ zjv_)) zb_ (zs_ 0) (ziM_ (zes_ rfl)) fun x_2=>(at_ [(Sl.ow (owAt w_ (Qq4 K)) x_2)] (zeB_ (zgu_ (i:=0) (n:=3) (by decide +kernel) rfl (by decide) (zdW_ (zdW_ (zdW_ zjv_))) za3_ (zkN_ false) (ziM_ (zes_ rfl)) fun x_5=>(at_ [(Sl.ow (owAt w_ (Qq4 K)) x_5)] (zU_ (.same .nil)))))))
theorem zgk_ {K:PySem.W.Frag}:RD_Wheel_reset K:=zgv_ (K:=K) (N:=Qn4) (O:=(Qq4 K)) (O2:=(Qq4 K)) (Q:=csNil) (t:=fun E=>zbH_ K) (ss:=fun c=>[]) (g:=fun x c=>zdc_ x) (LS:=fun w_=>(fun x':Qq6=>[(Sl.ow (owAt w_ (Qq4 K)) x')])) 0 0 zic_ rfl zme_ (fun _ _=>rfl) fun w_ x c E=>zf9_ w_ x c
theorem zfG_ {K:PySem.W.Frag}{E:XK}(c:Qq6):EvS K (zbr_ K) E [(Sl.fz (Qq5 K) c)] (zcx_ c) (fun _:Unit=>[]) (fun _:Unit=>[]) (owF tyInt) :=
 (zef_ (zv_ zb_) (EvF.ow (zb4_ (ns:=Qn6) (by decide +kernel) (n:=2) rfl (at_s (at_s at_0)) (zd_ 0 rfl))))
theorem zfM_ {K:PySem.W.Frag}:RD_Wheel_amount K:=ze0_ (K:=K) (N:=Qn4) (C:=(csLast (Qq5 K))) (O:=(owF tyInt)) (t:=fun E=>zbr_ K) (ss:=fun c=>[(Sl.fz (Qq5 K) c)]) (f:=fun c=>zcx_ c) 1 0 zf_ rfl zL_ fun c E=>zfG_ c
theorem zdf_ {K:PySem.W.Frag}{E:XK}(w_:V) (x:Qq1) (c:Int):EvS K (z7_ K) E [(Sl.ow (owAt w_ (Qq0 K)) x),(Sl.fz tyInt c),Sl.dead,Sl.dead] (zau_ x c) (fun _:Unit=>[]) (fun _:Unit=>[]) (owRM w_ (Qq0 K) (owF tyStr)) :=
 (zdO_ (i:=2) rfl zA_ (zkd_ (m := "total_line") (ns:=Qn0) (by decide +kernel) (zbK_ (P:=(Qq7 K)) 0 rfl) (zj_ (zd_ 1 rfl))) fun line_1=>(at_ [(Sl.ow (owAt w_ (Qq0 K)) x),(Sl.fz tyInt c),(Sl.fz tyStr line_1),Sl.dead] (zeg_ (LS:=(fun s_7:Qq1=>[(Sl.ow (owAt w_ (Qq0 K)) s_7),(Sl.fz tyInt c),(Sl.fz tyStr line_1),Sl.dead])) (s_if (zdI_ (zX_ zpI_ (zd_ 1 rfl) (zs_ 0))) (zeB_ (zmd_ (zca_ (m := "raise_level") (ns:=Qn0) (by decide +kernel) (zce_ (zm_ (z1_ (zY_ (zt_ zb_ (zq_ zb_)))) (zm_ (z1_ (zY_ (zt_ zb_ (zq_ zb_)))) (zm_ (z1_ (zY_ (zt_ zb_ (zq_ zb_)))) (zm_ (zbe_ (zbe_ (zce_ (zm_ (zv_ zb_) (zm_ (zv_ zb_) (zm_ (zv_ zb_) (zm_ (zv_ za3_) zar_))))))) (zm_ (zv_ (zc2_ zA_)) (zm_ (zfs_ za3_) zar_))))))) (zv_ zlO_) (zgC_ (zdE_ rfl)) (zkF_ (zff_ zb_ (zX_ zdB_ (zd_ 1 rfl) (zs_ 1))) (zdL_ (zl0_ (z1_ zb_) (zd4_ (ei_l (zX_ zec_ (zb4_ (ns:=Qn0) (by decide +kernel) (n:=3) rfl (at_s (at_s (at_s at_0))) (zbK_ (P:=(Qq7 K)) 0 rfl)) (zd_ 1 rfl))) (zav_ 0) (fun _=>dead1) (fun x_13=>zdg_) (fun x_13=>(zf1_ (m := "amount") (ns:=Qn6) (by decide +kernel) (zd_ 0 rfl)))))))) fun q_21=>(at_ [(Sl.ow (owAt w_ (Qq0 K)) q_21.2),(Sl.fz tyInt c),(Sl.fz tyStr line_1),Sl.dead] (zU_ (.same (.same (.same (.same .nil)))))))) (zU_ (.same (.same (.same (.same .nil)))))) fun s_7=>(at_ [(Sl.ow (owAt w_ (Qq0 K)) s_7),(Sl.fz tyInt c),(Sl.fz tyStr line_1),Sl.dead] (zeg_ (LS:=(fun s_31:Qq1=>[(Sl.ow (owAt w_ (Qq0 K)) s_31),(Sl.fz tyInt c),(Sl.fz tyStr line_1),Sl.dead])) (zps_ (m := "reset") (ns:=Qn6) (w:=3) (Nat.le_of_ble_eq_true rfl) rfl (by decide) (by decide +kernel) (zce_ (zm_ (zv_ zb_) (zm_ (zv_ zb_) (zm_ (zv_ zb_) (zm_ (zv_ za3_) zar_))))) (zmy_ (zlU_ (ns:=Qn0) (by decide +kernel) (n:=3) rfl (zjt_ (zjt_ (zjt_ zpR_))) (zgC_ (zdE_ rfl))) (zd_ 1 rfl))) fun s_31=>(at_ [(Sl.ow (owAt w_ (Qq0 K)) s_31),(Sl.fz tyInt c),(Sl.fz tyStr line_1),Sl.dead] (zpw_ (i:=0) rfl zA_ (zd_ 2 rfl))))))))
theorem zda_ {K:PySem.W.Frag}:RD_Counter_close_level K:=zij_ (K:=K) (N:=["self", "level", "line", "wheel"]) (O:=(Qq0 K)) (O2:=(Qq0 K)) (Q:=(csLast tyInt)) (t:=fun E=>z7_ K) (ss:=fun c=>[(Sl.fz tyInt c)]) (g:=fun x c=>zau_ x c) 1 2 zf_ rfl zL_ fun w_ x c E=>zdf_ w_ x c
theorem zcQ_ {K:PySem.W.Frag}{E:XK}(w_:V) (x:Qq1) (c:Int):EvS K (z6_ K) E [(Sl.ow (owAt w_ (Qq0 K)) x),(Sl.fz tyInt c),Sl.dead,Sl.dead] (z5_ x c) (fun _:Unit=>[]) (fun _:Unit=>[]) (owRM w_ (Qq0 K) (owL tyStr)) :=
 (zcV_ (i:=2) rfl (z1_ zA_) (zd1_ tyStr) fun lines_1=>(at_ [(Sl.ow (owAt w_ (Qq0 K)) x),(Sl.fz tyInt c),(Sl.ow (owL tyStr) lines_1),Sl.dead] (zeg_ (LS:=(fun s_2:((List (List Nat))×Qq1)=>[(Sl.ow (owAt w_ (Qq0 K)) s_2.2),(Sl.fz tyInt c),(Sl.ow (owL tyStr) s_2.1),Sl.dead])) (zcT_ (L':=[(Sl.ow (owAt w_ (Qq0 K)) x),(Sl.fz tyInt c),(Sl.ow (owL tyStr) lines_1),Sl.dead]) (.same (.same (.same (.same .nil)))) (zpL_ (LS:=(fun s_2:((List (List Nat))×Qq1)=>[(Sl.ow (owAt w_ (Qq0 K)) s_2.2),(Sl.fz tyInt c),(Sl.ow (owL tyStr) s_2.1),Sl.dead])) (s0:=(lines_1,x)) (eir_3 (zK_ (zly_ zgr_ (zj_ (zb4_ (ns:=Qn0) (by decide +kernel) (n:=0) rfl at_0 (zbK_ (P:=(Qq7 K)) 0 rfl)))) (zK_ (zX_ zdB_ (zd_ 1 rfl) (zs_ 1)) (zj_ (zpl_ (zs_ 1)))))) (zav_ 3) fun s_2 x_13=>at_ [(Sl.ow (owAt w_ (Qq0 K)) s_2.2),(Sl.fz tyInt c),(Sl.ow (owL tyStr) s_2.1),(Sl.fz tyInt x_13)] (zeB_ (zqu_ (w:=2) rfl (by decide) (zca_ (m := "close_level") (ns:=Qn0) (by decide +kernel) (zce_ (zm_ (z1_ (zY_ (zt_ zb_ (zq_ zb_)))) (zm_ (z1_ (zY_ (zt_ zb_ (zq_ zb_)))) (zm_ (z1_ (zY_ (zt_ zb_ (zq_ zb_)))) (zm_ (zbe_ (zbe_ (zce_ (zm_ (zv_ zb_) (zm_ (zv_ zb_) (zm_ (zv_ zb_) (zm_ (zv_ za3_) zar_))))))) (zm_ (zv_ (zc2_ zA_)) (zm_ (zfs_ za3_) zar_))))))) (zv_ zA_) (zgC_ (zdE_ rfl)) (zdL_ (zff_ zb_ (zd_ 3 rfl)))) fun q_17=>(at_ [(Sl.ow (owAt w_ (Qq0 K)) q_17.2),(Sl.fz tyInt c),(Sl.ow (owL tyStr) (s_2.1++[q_17.1])),(Sl.fz tyInt x_13)] (zU_ (.same (.same (.same (.dead .nil)))))))))) fun s_2=>(at_ [(Sl.ow (owAt w_ (Qq0 K)) s_2.2),(Sl.fz tyInt c),(Sl.ow (owL tyStr) s_2.1),Sl.dead] (zlY_ (i:=0) (j:=2) (by decide) rfl rfl)))))
theorem zcP_ {K:PySem.W.Frag}:RD_Counter_close_levels K:=zij_ (K:=K) (N:=Qn27) (O:=(Qq0 K)) (O2:=(Qq0 K)) (Q:=(csLast tyInt)) (t:=fun E=>z6_ K) (ss:=fun c=>[(Sl.fz tyInt c)]) (g:=fun x c=>z5_ x c) 1 2 zf_ rfl zL_ fun w_ x c E=>zcQ_ w_ x c
theorem zj5_ {K:PySem.W.Frag}{E:XK}(c:(List Nat)):EvS K (zd7_ K) E [(Sl.fz tyStr c)] (zeV_ c) (fun _:Unit=>[]) (fun _:Unit=>[]) (owF tyStr) :=
 (zef_ (zv_ zA_) (EvF.ow (zlh_ (zd_ 0 rfl) (zlk_ (zs_ 36)) zpV_)))
theorem zjg_ {K:PySem.W.Frag}:RD_mark_of K:=ze0_ (K:=K) (N:=["card"]) (C:=(csLast tyStr)) (O:=(owF tyStr)) (t:=fun E=>zd7_ K) (ss:=fun c=>[(Sl.fz tyStr c)]) (f:=fun c=>zeV_ c) 1 0 zf_ rfl zL_ fun c E=>zj5_ c
theorem zjM_ {K:PySem.W.Frag}{E:XK}(c:((List Nat)×Int)):EvS K (zd3_ K) E [(Sl.fz tyStr c.1),(Sl.fz tyInt c.2)] (zeS_ c.1 c.2) (fun _:Unit=>[]) (fun _:Unit=>[]) (owF tyStr) :=
 (zef_ (zv_ zA_) (EvF.ow (zX_ zgU_ (zd_ 0 rfl) (zX_ zdB_ (zd_ 1 rfl) (zs_ 1)))))
theorem zjl_ {K:PySem.W.Frag}:RD_sign_at K:=ze0_ (K:=K) (N:=Qn26) (C:=(csCons tyStr (csLast tyInt))) (O:=(owF tyStr)) (t:=fun E=>zd3_ K) (ss:=fun c=>[(Sl.fz tyStr c.1),(Sl.fz tyInt c.2)]) (f:=fun c=>zeS_ c.1 c.2) 2 0 (zl_ zf_) rfl (zaE_ zL_) fun c E=>zjM_ c
theorem zky_ {K:PySem.W.Frag}{E:XK}(c:((List Nat)×(List (Int×Int)))):EvS K (zd0_ K) E [(Sl.fz tyStr c.1),(Sl.fz (tyL Qq2) c.2),Sl.dead,Sl.dead] (zeR_ c.1 c.2) (fun _:Unit=>[]) (fun _:Unit=>[]) (owF tyStr) :=
 (zcV_ (i:=2) rfl (z1_ zA_) (zd4_ (zfT_ (zj_ (zs_ 36))) (zav_ 0) (fun _=>dead1) (fun x_3=>zdg_) (fun x_3=>(zcR_ [32]))) fun signs_1=>(at_ [(Sl.fz tyStr c.1),(Sl.fz (tyL Qq2) c.2),(Sl.ow (owL tyStr) signs_1),Sl.dead] (zeg_ (LS:=(fun s_5:(List (List Nat))=>[(Sl.fz tyStr c.1),(Sl.fz (tyL Qq2) c.2),(Sl.ow (owL tyStr) s_5),Sl.dead])) (zcT_ (L':=[(Sl.fz tyStr c.1),(Sl.fz (tyL Qq2) c.2),(Sl.ow (owL tyStr) signs_1),Sl.dead]) (.same (.same (.same (.same .nil)))) (zhw_ (LS:=(fun s_5:(List (List Nat))=>[(Sl.fz tyStr c.1),(Sl.fz (tyL Qq2) c.2),(Sl.ow (owL tyStr) s_5),Sl.dead])) (s0:=signs_1) (ei_l (zd_ 1 rfl)) (zav_ 3) fun s_5 x_6=>at_ [(Sl.fz tyStr c.1),(Sl.fz (tyL Qq2) c.2),(Sl.ow (owL tyStr) s_5),(Sl.fz Qq2 x_6)] (zeB_ (zpr_ (i:=2) rfl zA_ (zR_ (zK_ (zd_ 0 rfl) (zj_ (ziE_ (i:=0) at_0 (zd_ 3 rfl))))) (zX_ zdB_ (ziE_ (i:=1) (at_s zje_) (zd_ 3 rfl)) (zs_ 1)) fun signs_20=>(at_ [(Sl.fz tyStr c.1),(Sl.fz (tyL Qq2) c.2),(Sl.ow (owL tyStr) signs_20),(Sl.fz Qq2 x_6)] (zU_ (.same (.same (.same (.dead .nil)))))))))) fun s_5=>(at_ [(Sl.fz tyStr c.1),(Sl.fz (tyL Qq2) c.2),(Sl.ow (owL tyStr) s_5),Sl.dead] (zef_ (zv_ zA_) (EvF.ow (znE_ zjh_ (zcR_ []) (zj_ (zfR_ 2 rfl)))))))))
theorem zkc_ {K:PySem.W.Frag}:RD_lay_out K:=ze0_ (K:=K) (N:=["card", "board", "signs", "wire"]) (C:=(csCons tyStr (csLast (tyL Qq2)))) (O:=(owF tyStr)) (t:=fun E=>zd0_ K) (ss:=fun c=>[(Sl.fz tyStr c.1),(Sl.fz (tyL Qq2) c.2)]) (f:=fun c=>zeR_ c.1 c.2) 2 2 (zl_ zf_) rfl (zaE_ zL_) fun c E=>zky_ c
theorem zcH_ {K:PySem.W.Frag}{E:XK}(c:(Qq1×(List Nat))):EvS K (zT_ K) E [(Sl.fz (Qq3 K) c.1),(Sl.fz tyStr c.2),Sl.dead,Sl.dead] (zak_ c.1 c.2) (fun _:Unit=>[]) (fun _:Unit=>[]) (owF tyInt) :=
 (zeg_ (LS:=(fun _:Unit=>[(Sl.fz (Qq3 K) c.1),(Sl.fz tyStr c.2),Sl.dead,Sl.dead])) (zcT_ (L':=[(Sl.fz (Qq3 K) c.1),(Sl.fz tyStr c.2),Sl.dead,Sl.dead]) (.same (.same (.same (.same .nil)))) (zhw_ (LS:=(fun _:Unit=>[(Sl.fz (Qq3 K) c.1),(Sl.fz tyStr c.2),Sl.dead,Sl.dead])) (s0:=()) (zj6_ (zj_ (zb4_ (ns:=Qn0) (by decide +kernel) (n:=0) rfl at_0 (zd_ 0 rfl)))) (zjr_ (zl_ zf_) (zg9_ 2 (zgB_ (zav_ 3)))) fun _ x_4=>at_ [(Sl.fz (Qq3 K) c.1),(Sl.fz tyStr c.2),(Sl.fz tyInt x_4.1),(Sl.fz Qq2 x_4.2)] (s_if (zdI_ (zX_ zp3_ (zR_ (zK_ (zd_ 1 rfl) (zj_ (zd_ 3 rfl)))) (zR_ (zK_ (zkI_ (zb4_ (ns:=Qn0) (by decide +kernel) (n:=4) rfl (at_s (at_s (at_s (at_s at_0)))) (zd_ 0 rfl))) (zj_ (zd_ 3 rfl)))))) (zef_ (zv_ zb_) (EvF.ow (zX_ zbz_ (zd_ 2 rfl) (zs_ 1)))) (zU_ (.same (.same (.dead (.dead .nil)))))))) fun _=>(at_ [(Sl.fz (Qq3 K) c.1),(Sl.fz tyStr c.2),Sl.dead,Sl.dead] (zef_ (zv_ zb_) (EvF.ow (zX_ zbz_ (zly_ zgr_ (zj_ (zb4_ (ns:=Qn0) (by decide +kernel) (n:=0) rfl at_0 (zd_ 0 rfl)))) (zs_ 1))))))
theorem zcF_ {K:PySem.W.Frag}:RD_Counter_changed_level K:=ze0_ (K:=K) (N:=["self", "card", "place", "field"]) (C:=(csCons (Qq3 K) (csLast tyStr))) (O:=(owF tyInt)) (t:=fun E=>zT_ K) (ss:=fun c=>[(Sl.fz (Qq3 K) c.1),(Sl.fz tyStr c.2)]) (f:=fun c=>zak_ c.1 c.2) 2 2 (zl_ zf_) rfl (zaE_ zL_) fun c E=>zcH_ c
theorem zhu_ {K:PySem.W.Frag}{E:XK}(c:(List Nat)):EvS K (zcp_ K) E [(Sl.fz tyStr c),Sl.dead,Sl.dead] (zdl_ c) (fun _:Unit=>[]) (fun _:Unit=>[]) (owF tyInt) :=
 (zdO_ (i:=1) rfl zb_ (zs_ 0) fun value_1=>(at_ [(Sl.fz tyStr c),(Sl.fz tyInt value_1),Sl.dead] (zeg_ (LS:=(fun s_2:Int=>[(Sl.fz tyStr c),(Sl.fz tyInt s_2),Sl.dead])) (zcT_ (L':=[(Sl.fz tyStr c),(Sl.fz tyInt value_1),Sl.dead]) (.same (.same (.same .nil))) (zhw_ (LS:=(fun s_2:Int=>[(Sl.fz tyStr c),(Sl.fz tyInt s_2),Sl.dead])) (s0:=value_1) (znn_ (zd_ 0 rfl)) (zav_ 2) fun s_2 x_4=>at_ [(Sl.fz tyStr c),(Sl.fz tyInt s_2),(Sl.fz tyStr x_4)] (zeB_ (zdO_ (i:=1) rfl zb_ (zX_ zbz_ (zX_ zfg_ (zd_ 1 rfl) (zs_ 10)) (znE_ zmS_ (zcR_ [48,49,50,51,52,53,54,55,56,57]) (zj_ (zd_ 2 rfl)))) fun value_5=>(at_ [(Sl.fz tyStr c),(Sl.fz tyInt value_5),(Sl.fz tyStr x_4)] (zU_ (.same (.same (.dead .nil))))))))) fun s_2=>(at_ [(Sl.fz tyStr c),(Sl.fz tyInt s_2),Sl.dead] (zef_ (zv_ zb_) (EvF.ow (zd_ 1 rfl)))))))
theorem zhN_ {K:PySem.W.Frag}:RD_number_by K:=ze0_ (K:=K) (N:=["figures", "value", "figure"]) (C:=(csLast tyStr)) (O:=(owF tyInt)) (t:=fun E=>zcp_ K) (ss:=fun c=>[(Sl.fz tyStr c)]) (f:=fun c=>zdl_ c) 1 2 zf_ rfl zL_ fun c E=>zhu_ c
theorem zhr_ {K:PySem.W.Frag}{E:XK}(c:((List Nat)×(Int×Int))):EvS K (zcj_ K) E [(Sl.fz tyStr c.1),(Sl.fz Qq2 c.2),Sl.dead] (zdv_ c.1 c.2) (fun _:Unit=>[]) (fun _:Unit=>[]) (owF tyInt) :=
 (zcV_ (i:=2) rfl (z1_ zA_) (zd4_ (znn_ (zR_ (zK_ (zd_ 0 rfl) (zj_ (zd_ 1 rfl))))) (zav_ 0) (fun _=>dead1) (fun x_6=>zdg_) (fun x_6=>(ev_if (zdI_ (zX_ zp8_ (zd_ 0 rfl) (zcR_ [48,49,50,51,52,53,54,55,56,57]))) (zd_ 0 rfl) (zcR_ [48])))) fun figures_1=>zlq_ (i:=2) rfl (at_ [(Sl.fz tyStr c.1),(Sl.fz Qq2 c.2),(Sl.fz (tyL tyStr) figures_1)] (zef_ (zv_ zb_) (EvF.ow (zR_ (zj_ (znE_ zjh_ (zcR_ []) (zj_ (zd_ 2 rfl)))))))))
theorem zh2_ {K:PySem.W.Frag}:RD_number_of K:=ze0_ (K:=K) (N:=["card", "field", "figures"]) (C:=(csCons tyStr (csLast Qq2))) (O:=(owF tyInt)) (t:=fun E=>zcj_ K) (ss:=fun c=>[(Sl.fz tyStr c.1),(Sl.fz Qq2 c.2)]) (f:=fun c=>zdv_ c.1 c.2) 2 1 (zl_ zf_) rfl (zaE_ zL_) fun c E=>zhr_ c
theorem zfH_ {K:PySem.W.Frag}{E:XK}(w_:V) (x:Qq1) (c:(List Nat)):EvS K (zbt_ K) E [(Sl.ow (owAt w_ (Qq0 K)) x),(Sl.fz tyStr c),Sl.dead,Sl.dead,Sl.dead] (zbS_ x c) (fun _:Unit=>[]) (fun _:Unit=>[]) (owRM w_ (Qq0 K) (owL tyStr)) :=
 (zcV_ (i:=2) rfl (z1_ zA_) (zd1_ tyStr) fun lines_1=>(at_ [(Sl.ow (owAt w_ (Qq0 K)) x),(Sl.fz tyStr c),(Sl.ow (owL tyStr) lines_1),Sl.dead,Sl.dead] (zeg_ (LS:=(fun s_6:((List (List Nat))×Qq1)=>[(Sl.ow (owAt w_ (Qq0 K)) s_6.2),(Sl.fz tyStr c),(Sl.ow (owL tyStr) s_6.1),Sl.dead,Sl.dead])) (s_if (zdI_ (zX_ zm3_ (zb4_ (ns:=Qn0) (by decide +kernel) (n:=4) rfl (at_s (at_s (at_s (at_s at_0)))) (zbK_ (P:=(Qq7 K)) 0 rfl)) zoN_)) (zeB_ (zqa_ (w:=2) rfl (by decide) (zca_ (m := "close_levels") (ns:=Qn0) (by decide +kernel) (zce_ (zm_ (z1_ (zY_ (zt_ zb_ (zq_ zb_)))) (zm_ (z1_ (zY_ (zt_ zb_ (zq_ zb_)))) (zm_ (z1_ (zY_ (zt_ zb_ (zq_ zb_)))) (zm_ (zbe_ (zbe_ (zce_ (zm_ (zv_ zb_) (zm_ (zv_ zb_) (zm_ (zv_ zb_) (zm_ (zv_ za3_) zar_))))))) (zm_ (zv_ (zc2_ zA_)) (zm_ (zfs_ za3_) zar_))))))) (z1_ zA_) (zgC_ (zdE_ rfl)) (zdL_ (zff_ zb_ (zkd_ (m := "changed_level") (ns:=Qn0) (by decide +kernel) (zbK_ (P:=(Qq7 K)) 0 rfl) (zj_ (zd_ 1 rfl)))))) fun q_12=>(at_ [(Sl.ow (owAt w_ (Qq0 K)) q_12.2),(Sl.fz tyStr c),(Sl.ow (owL tyStr) q_12.1),Sl.dead,Sl.dead] (zU_ (.same (.same (.same (.same (.same .nil))))))))) (zU_ (.same (.same (.same (.same (.same .nil))))))) fun s_6=>(at_ [(Sl.ow (owAt w_ (Qq0 K)) s_6.2),(Sl.fz tyStr c),(Sl.ow (owL tyStr) s_6.1),Sl.dead,Sl.dead] (zdO_ (i:=3) rfl zA_ (zR_ (zj_ (zd_ 1 rfl))) fun mark_13=>(at_ [(Sl.ow (owAt w_ (Qq0 K)) s_6.2),(Sl.fz tyStr c),(Sl.ow (owL tyStr) s_6.1),(Sl.fz tyStr mark_13),Sl.dead] (zdO_ (i:=4) rfl zA_ (zR_ (zK_ (zd_ 1 rfl) (zj_ (zb4_ (ns:=Qn0) (by decide +kernel) (n:=2) rfl (at_s (at_s at_0)) (zbK_ (P:=(Qq7 K)) 0 rfl))))) fun laid_15=>(at_ [(Sl.ow (owAt w_ (Qq0 K)) s_6.2),(Sl.fz tyStr c),(Sl.ow (owL tyStr) s_6.1),(Sl.fz tyStr mark_13),(Sl.fz tyStr laid_15)] (zhk_ (i:=2) rfl zA_ (zk5_ (zkD_ (zlS_ (zd_ 3 rfl)) (zkD_ (zcR_ [32]) (zkD_ (zlS_ (zd_ 4 rfl)) zp4_)))) fun a_28=>(at_ [(Sl.ow (owAt w_ (Qq0 K)) s_6.2),(Sl.fz tyStr c),(Sl.ow (owL tyStr) (s_6.1++[a_28])),(Sl.fz tyStr mark_13),(Sl.fz tyStr laid_15)] (zmd_ (zca_ (m := "raise_level") (ns:=Qn0) (by decide +kernel) (zce_ (zm_ (z1_ (zY_ (zt_ zb_ (zq_ zb_)))) (zm_ (z1_ (zY_ (zt_ zb_ (zq_ zb_)))) (zm_ (z1_ (zY_ (zt_ zb_ (zq_ zb_)))) (zm_ (zbe_ (zbe_ (zce_ (zm_ (zv_ zb_) (zm_ (zv_ zb_) (zm_ (zv_ zb_) (zm_ (zv_ za3_) zar_))))))) (zm_ (zv_ (zc2_ zA_)) (zm_ (zfs_ za3_) zar_))))))) (zv_ zlO_) (zgC_ (zdE_ rfl)) (zkF_ (zff_ zb_ (zly_ zgr_ (zj_ (zb4_ (ns:=Qn0) (by decide +kernel) (n:=0) rfl at_0 (zbK_ (P:=(Qq7 K)) 0 rfl))))) (zdL_ (zl0_ (z1_ zb_) (zd4_ (ei_l (zb4_ (ns:=Qn0) (by decide +kernel) (n:=1) rfl (at_s at_0) (zbK_ (P:=(Qq7 K)) 0 rfl))) (zav_ 0) (fun _=>dead1) (fun x_32=>zdg_) (fun x_32=>(zR_ (zK_ (zd_ 1 rfl) (zj_ (zd_ 0 rfl)))))))))) fun q_42=>(at_ [(Sl.ow (owAt w_ (Qq0 K)) q_42.2),(Sl.fz tyStr c),(Sl.ow (owL tyStr) (s_6.1++[a_28])),(Sl.fz tyStr mark_13),(Sl.fz tyStr laid_15)] (zgu_ (i:=0) (n:=4) (by decide +kernel) rfl (by decide) (zdW_ (zdW_ (zdW_ (zdW_ zjv_)))) (zc2_ zA_) (zob_ (fun _ _ _=>zpo_) (zd_ 1 rfl)) (ziM_ (zes_ rfl)) fun x_44=>(at_ [(Sl.ow (owAt w_ (Qq0 K)) x_44),(Sl.fz tyStr c),(Sl.ow (owL tyStr) (s_6.1++[a_28])),(Sl.fz tyStr mark_13),(Sl.fz tyStr laid_15)] (zlY_ (i:=0) (j:=2) (by decide) rfl rfl)))))))))))))))
theorem zfI_ {K:PySem.W.Frag}:RD_Counter_feed K:=zij_ (K:=K) (N:=Qn25) (O:=(Qq0 K)) (O2:=(Qq0 K)) (Q:=(csLast tyStr)) (t:=fun E=>zbt_ K) (ss:=fun c=>[(Sl.fz tyStr c)]) (g:=fun x c=>zbS_ x c) 1 3 zf_ rfl zL_ fun w_ x c E=>zfH_ w_ x c
theorem zhR_ {K:PySem.W.Frag}{E:XK}(c:((List (List Nat))×(List (List Nat)))):EvS K (zcm_ K) E [(Sl.fz (tyL tyStr) c.1),(Sl.fz (tyL tyStr) c.2),Sl.dead] (zdn_ c.1 c.2) (fun _:Unit=>[]) (fun _:Unit=>[]) (owF tyBl) :=
 (zeg_ (LS:=(fun _:Unit=>[(Sl.fz (tyL tyStr) c.1),(Sl.fz (tyL tyStr) c.2),Sl.dead])) (s_if (et_or (znh_ (zdI_ (znO_ tn_l (zd_ 0 rfl)))) (zdI_ (zX_ (zmC_ (zmX_ zlZ_)) (zd_ 0 rfl) (zd_ 1 rfl)))) (zef_ (zv_ za3_) (EvF.ow (zkN_ false))) (zU_ (.same (.same (.same .nil))))) fun _=>(at_ [(Sl.fz (tyL tyStr) c.1),(Sl.fz (tyL tyStr) c.2),Sl.dead] (zeg_ (LS:=(fun _:Unit=>[(Sl.fz (tyL tyStr) c.1),(Sl.fz (tyL tyStr) c.2),Sl.dead])) (zcT_ (L':=[(Sl.fz (tyL tyStr) c.1),(Sl.fz (tyL tyStr) c.2),Sl.dead]) (.same (.same (.same .nil))) (zhw_ (LS:=(fun _:Unit=>[(Sl.fz (tyL tyStr) c.1),(Sl.fz (tyL tyStr) c.2),Sl.dead])) (s0:=()) (ei_l (zd_ 0 rfl)) (zav_ 2) fun _ x_10=>at_ [(Sl.fz (tyL tyStr) c.1),(Sl.fz (tyL tyStr) c.2),(Sl.fz tyStr x_10)] (s_if (znh_ (zdI_ (znO_ zpv_ (zd_ 2 rfl)))) (zef_ (zv_ za3_) (EvF.ow (zkN_ false))) (zU_ (.same (.same (.dead .nil))))))) fun _=>(at_ [(Sl.fz (tyL tyStr) c.1),(Sl.fz (tyL tyStr) c.2),Sl.dead] (zef_ (zv_ za3_) (EvF.ow (zkN_ true)))))))
theorem zhc_ {K:PySem.W.Frag}:RD_law_texts K:=ze0_ (K:=K) (N:=Qn28) (C:=(csCons (tyL tyStr) (csLast (tyL tyStr)))) (O:=(owF tyBl)) (t:=fun E=>zcm_ K) (ss:=fun c=>[(Sl.fz (tyL tyStr) c.1),(Sl.fz (tyL tyStr) c.2)]) (f:=fun c=>zdn_ c.1 c.2) 2 1 (zl_ zf_) rfl (zaE_ zL_) fun c E=>zhR_ c
theorem zez_ {K:PySem.W.Frag}{E:XK}(w_:V) (x:Qq1) (c:Unit):EvS K (zaW_ K) E [(Sl.ow (owAt w_ (Qq0 K)) x)] (zbv_ x) (fun _:Unit=>[]) (fun _:Unit=>[]) (owRM w_ (Qq0 K) (owL tyStr)) :=
 (zeg_ (LS:=(fun _:Unit=>[(Sl.ow (owAt w_ (Qq0 K)) x)])) (s_if (zdI_ (zX_ zoT_ (zb4_ (ns:=Qn0) (by decide +kernel) (n:=4) rfl (at_s (at_s (at_s (at_s at_0)))) (zbK_ (P:=(Qq7 K)) 0 rfl)) zoN_)) (zmJ_ (i:=0) (Nat.le_of_ble_eq_true rfl) (zca_ (m := "close_level") (ns:=Qn0) (by decide +kernel) (zce_ (zm_ (z1_ (zY_ (zt_ zb_ (zq_ zb_)))) (zm_ (z1_ (zY_ (zt_ zb_ (zq_ zb_)))) (zm_ (z1_ (zY_ (zt_ zb_ (zq_ zb_)))) (zm_ (zbe_ (zbe_ (zce_ (zm_ (zv_ zb_) (zm_ (zv_ zb_) (zm_ (zv_ zb_) (zm_ (zv_ za3_) zar_))))))) (zm_ (zv_ (zc2_ zA_)) (zm_ (zfs_ za3_) zar_))))))) (zv_ zA_) (zgC_ (zdE_ rfl)) (zdL_ (zff_ zb_ (zs_ 0))))) (zU_ (.same .nil))) fun _=>(at_ [(Sl.ow (owAt w_ (Qq0 K)) x)] (znP_ (i:=0) (Nat.le_of_ble_eq_true rfl) (zca_ (m := "close_levels") (ns:=Qn0) (by decide +kernel) (zce_ (zm_ (z1_ (zY_ (zt_ zb_ (zq_ zb_)))) (zm_ (z1_ (zY_ (zt_ zb_ (zq_ zb_)))) (zm_ (z1_ (zY_ (zt_ zb_ (zq_ zb_)))) (zm_ (zbe_ (zbe_ (zce_ (zm_ (zv_ zb_) (zm_ (zv_ zb_) (zm_ (zv_ zb_) (zm_ (zv_ za3_) zar_))))))) (zm_ (zv_ (zc2_ zA_)) (zm_ (zfs_ za3_) zar_))))))) (z1_ zA_) (zgC_ (zdE_ rfl)) (zdL_ (zff_ zb_ (zs_ 0)))))))
theorem zeM_ {K:PySem.W.Frag}:RD_Counter_finish K:=zij_ (K:=K) (N:=Qn4) (O:=(Qq0 K)) (O2:=(Qq0 K)) (Q:=csNil) (t:=fun E=>zaW_ K) (ss:=fun c=>[]) (g:=fun x c=>zbv_ x) 0 0 zic_ rfl zme_ fun w_ x c E=>zez_ w_ x c
theorem zhH_ {K:PySem.W.Frag}{E:XK}(c:(Int×Int)):EvS K (zct_ K) E [(Sl.fz tyInt c.1),(Sl.fz tyInt c.2),Sl.dead,Sl.dead] (zdr_ c.1 c.2) (fun _:Unit=>[]) (fun _:Unit=>[]) (owF tyStr) :=
 (zdO_ (i:=2) rfl zA_ (zcR_ []) fun found_1=>(at_ [(Sl.fz tyInt c.1),(Sl.fz tyInt c.2),(Sl.fz tyStr found_1),Sl.dead] (zeg_ (LS:=(fun s_2:((List Nat)×Int)=>[(Sl.fz tyInt s_2.2),(Sl.fz tyInt c.2),(Sl.fz tyStr s_2.1),Sl.dead])) (zcT_ (L':=[(Sl.fz tyInt c.1),(Sl.fz tyInt c.2),(Sl.fz tyStr found_1),Sl.dead]) (.same (.same (.same (.same .nil)))) (zhw_ (LS:=(fun s_2:((List Nat)×Int)=>[(Sl.fz tyInt s_2.2),(Sl.fz tyInt c.2),(Sl.fz tyStr s_2.1),Sl.dead])) (s0:=(found_1,c.1)) (zfT_ (zj_ (zd_ 1 rfl))) (zav_ 3) fun s_2 x_4=>at_ [(Sl.fz tyInt s_2.2),(Sl.fz tyInt c.2),(Sl.fz tyStr s_2.1),(Sl.fz tyInt x_4)] (zdO_ (i:=2) rfl zA_ (zX_ zdC_ (zX_ zgU_ (zcR_ [48,49,50,51,52,53,54,55,56,57]) (zX_ zbc_ (zd_ 0 rfl) (zs_ 10))) (zd_ 2 rfl)) fun found_5=>(at_ [(Sl.fz tyInt s_2.2),(Sl.fz tyInt c.2),(Sl.fz tyStr found_5),(Sl.fz tyInt x_4)] (zeB_ (zdO_ (i:=0) rfl zb_ (zX_ zcE_ (zd_ 0 rfl) (zs_ 10)) fun number_here_12=>(at_ [(Sl.fz tyInt number_here_12),(Sl.fz tyInt c.2),(Sl.fz tyStr found_5),(Sl.fz tyInt x_4)] (zU_ (.same (.same (.same (.dead .nil)))))))))))) fun s_2=>(at_ [(Sl.fz tyInt s_2.2),(Sl.fz tyInt c.2),(Sl.fz tyStr s_2.1),Sl.dead] (zef_ (zv_ zA_) (EvF.ow (zd_ 2 rfl)))))))
theorem zhM_ {K:PySem.W.Frag}:RD_law_shown K:=ze0_ (K:=K) (N:=Qn11) (C:=(csCons tyInt (csLast tyInt))) (O:=(owF tyStr)) (t:=fun E=>zct_ K) (ss:=fun c=>[(Sl.fz tyInt c.1),(Sl.fz tyInt c.2)]) (f:=fun c=>zdr_ c.1 c.2) 2 2 (zl_ zf_) rfl (zaE_ zL_) fun c E=>zhH_ c
theorem zfA_ {K:PySem.W.Frag}{E:XK}(c:((List Nat)×(List (Int×Int)))):EvS K (zbf_ K) E [(Sl.fz tyStr c.1),(Sl.fz (tyL Qq2) c.2),Sl.dead,Sl.dead,Sl.dead,Sl.dead,Sl.dead] (zbC_ c.1 c.2) (fun _:Unit=>[]) (fun _:Unit=>[]) (owF tyStr) :=
 (zcV_ (i:=2) rfl (zfs_ zA_) (zmb_ kInt tyStr) fun signs_1=>(at_ [(Sl.fz tyStr c.1),(Sl.fz (tyL Qq2) c.2),(Sl.ow (owD kInt tyStr) signs_1),Sl.dead,Sl.dead,Sl.dead,Sl.dead] (zeg_ (LS:=(fun s_2:(List (Int×(List Nat)))=>[(Sl.fz tyStr c.1),(Sl.fz (tyL Qq2) c.2),(Sl.ow (owD kInt tyStr) s_2),Sl.dead,Sl.dead,Sl.dead,Sl.dead])) (zcT_ (L':=[(Sl.fz tyStr c.1),(Sl.fz (tyL Qq2) c.2),(Sl.ow (owD kInt tyStr) signs_1),Sl.dead,Sl.dead,Sl.dead,Sl.dead]) (.same (.same (.same (.same (.same (.same (.same .nil))))))) (zhw_ (LS:=(fun s_2:(List (Int×(List Nat)))=>[(Sl.fz tyStr c.1),(Sl.fz (tyL Qq2) c.2),(Sl.ow (owD kInt tyStr) s_2),Sl.dead,Sl.dead,Sl.dead,Sl.dead])) (s0:=signs_1) (ei_l (zd_ 1 rfl)) (zjr_ (zl_ zf_) (zg9_ 3 (zgB_ (zav_ 4)))) fun s_2 x_3=>at_ [(Sl.fz tyStr c.1),(Sl.fz (tyL Qq2) c.2),(Sl.ow (owD kInt tyStr) s_2),(Sl.fz tyInt x_3.1),(Sl.fz tyInt x_3.2),Sl.dead,Sl.dead] (zeB_ (zpK_ (i:=2) rfl zA_ zb_ (zX_ zgU_ (zd_ 0 rfl) (zX_ zdB_ (zd_ 3 rfl) (zs_ 1))) (zd_ 4 rfl) fun a_8 y_9=>(at_ [(Sl.fz tyStr c.1),(Sl.fz (tyL Qq2) c.2),(Sl.ow (owD kInt tyStr) (putA s_2 y_9 a_8)),(Sl.fz tyInt x_3.1),(Sl.fz tyInt x_3.2),Sl.dead,Sl.dead] (zU_ (.same (.same (.same (.dead (.dead (.same (.same .nil))))))))))))) fun s_2=>(at_ [(Sl.fz tyStr c.1),(Sl.fz (tyL Qq2) c.2),(Sl.ow (owD kInt tyStr) s_2),Sl.dead,Sl.dead,Sl.dead,Sl.dead] (zdO_ (i:=5) rfl zA_ (zX_ zdC_ (zlh_ (zd_ 0 rfl) (zlk_ (zs_ 36)) zpV_) (zcR_ [32])) fun text_11=>(at_ [(Sl.fz tyStr c.1),(Sl.fz (tyL Qq2) c.2),(Sl.ow (owD kInt tyStr) s_2),Sl.dead,Sl.dead,(Sl.fz tyStr text_11),Sl.dead] (zeg_ (LS:=(fun s_18:(List Nat)=>[(Sl.fz tyStr c.1),(Sl.fz (tyL Qq2) c.2),(Sl.ow (owD kInt tyStr) s_2),Sl.dead,Sl.dead,(Sl.fz tyStr s_18),Sl.dead])) (zcT_ (L':=[(Sl.fz tyStr c.1),(Sl.fz (tyL Qq2) c.2),(Sl.ow (owD kInt tyStr) s_2),Sl.dead,Sl.dead,(Sl.fz tyStr text_11),Sl.dead]) (.same (.same (.same (.same (.same (.same (.same .nil))))))) (zhw_ (LS:=(fun s_18:(List Nat)=>[(Sl.fz tyStr c.1),(Sl.fz (tyL Qq2) c.2),(Sl.ow (owD kInt tyStr) s_2),Sl.dead,Sl.dead,(Sl.fz tyStr s_18),Sl.dead])) (s0:=text_11) (zlQ_ (zK_ (zs_ 1) (zj_ (zs_ 37)))) (zav_ 6) fun s_18 x_22=>at_ [(Sl.fz tyStr c.1),(Sl.fz (tyL Qq2) c.2),(Sl.ow (owD kInt tyStr) s_2),Sl.dead,Sl.dead,(Sl.fz tyStr s_18),(Sl.fz tyInt x_22)] (zeB_ (zdO_ (i:=5) rfl zA_ (zX_ zdC_ (zd_ 5 rfl) (zm6_ (zoQ_ 2 rfl) (zd_ 6 rfl) (zcR_ [32]))) fun text_23=>(at_ [(Sl.fz tyStr c.1),(Sl.fz (tyL Qq2) c.2),(Sl.ow (owD kInt tyStr) s_2),Sl.dead,Sl.dead,(Sl.fz tyStr text_23),(Sl.fz tyInt x_22)] (zU_ (.same (.same (.same (.same (.same (.same (.dead .nil))))))))))))) fun s_18=>(at_ [(Sl.fz tyStr c.1),(Sl.fz (tyL Qq2) c.2),(Sl.ow (owD kInt tyStr) s_2),Sl.dead,Sl.dead,(Sl.fz tyStr s_18),Sl.dead] (zef_ (zv_ zA_) (EvF.ow (zd_ 5 rfl)))))))))))
theorem zfe_ {K:PySem.W.Frag}:RD_law_card_line K:=ze0_ (K:=K) (N:=Qn3) (C:=(csCons tyStr (csLast (tyL Qq2)))) (O:=(owF tyStr)) (t:=fun E=>zbf_ K) (ss:=fun c=>[(Sl.fz tyStr c.1),(Sl.fz (tyL Qq2) c.2)]) (f:=fun c=>zbC_ c.1 c.2) 2 5 (zl_ zf_) rfl (zaE_ zL_) fun c E=>zfA_ c
theorem zgR_ {K:PySem.W.Frag}{E:XK}(c:((List Nat)×(Int×Int))):EvS K (zbV_ K) E [(Sl.fz tyStr c.1),(Sl.fz Qq2 c.2),Sl.dead,Sl.dead] (zcz_ c.1 c.2) (fun _:Unit=>[]) (fun _:Unit=>[]) (owF tyInt) :=
 (zdO_ (i:=2) rfl zb_ (zs_ 0) fun total_1=>(at_ [(Sl.fz tyStr c.1),(Sl.fz Qq2 c.2),(Sl.fz tyInt total_1),Sl.dead] (zeg_ (LS:=(fun s_2:Int=>[(Sl.fz tyStr c.1),(Sl.fz Qq2 c.2),(Sl.fz tyInt s_2),Sl.dead])) (zcT_ (L':=[(Sl.fz tyStr c.1),(Sl.fz Qq2 c.2),(Sl.fz tyInt total_1),Sl.dead]) (.same (.same (.same (.same .nil)))) (zhw_ (LS:=(fun s_2:Int=>[(Sl.fz tyStr c.1),(Sl.fz Qq2 c.2),(Sl.fz tyInt s_2),Sl.dead])) (s0:=total_1) (znn_ (zlh_ (zd_ 0 rfl) (zlk_ (zX_ zdB_ (ziE_ (i:=0) at_0 (zd_ 1 rfl)) (zs_ 1))) (zlk_ (ziE_ (i:=1) (at_s zje_) (zd_ 1 rfl))))) (zav_ 3) fun s_2 x_13=>at_ [(Sl.fz tyStr c.1),(Sl.fz Qq2 c.2),(Sl.fz tyInt s_2),(Sl.fz tyStr x_13)] (zeB_ (zdO_ (i:=2) rfl zb_ (zX_ zbz_ (zX_ zfg_ (zs_ 10) (zd_ 2 rfl)) (zly_ zqo_ (zK_ (zs_ 0) (zj_ (znE_ zn2_ (zcR_ [48,49,50,51,52,53,54,55,56,57]) (zj_ (zd_ 3 rfl))))))) fun total_14=>(at_ [(Sl.fz tyStr c.1),(Sl.fz Qq2 c.2),(Sl.fz tyInt total_14),(Sl.fz tyStr x_13)] (zU_ (.same (.same (.same (.dead .nil)))))))))) fun s_2=>(at_ [(Sl.fz tyStr c.1),(Sl.fz Qq2 c.2),(Sl.fz tyInt s_2),Sl.dead] (zef_ (zv_ zb_) (EvF.ow (zd_ 2 rfl)))))))
theorem zgL_ {K:PySem.W.Frag}:RD_law_number K:=ze0_ (K:=K) (N:=Qn9) (C:=(csCons tyStr (csLast Qq2))) (O:=(owF tyInt)) (t:=fun E=>zbV_ K) (ss:=fun c=>[(Sl.fz tyStr c.1),(Sl.fz Qq2 c.2)]) (f:=fun c=>zcz_ c.1 c.2) 2 2 (zl_ zf_) rfl (zaE_ zL_) fun c E=>zgR_ c
theorem zpF_ {K:PySem.W.Frag}{E:XK}(c:(List Int)):EvS K (zoB_ K) E [(Sl.fz (tySc K) c),Sl.dead,Sl.dead,Sl.dead,Sl.dead,Sl.dead,Sl.dead,Sl.dead,Sl.dead,Sl.dead,Sl.dead,Sl.dead,Sl.dead,Sl.dead,Sl.dead,Sl.dead] (zpc_ c) (fun _:Unit=>[]) (fun _:Unit=>[]) (owF tyBl) :=
 (zcV_ (i:=1) rfl (z1_ zb_) (zdJ_ (zj_ (zR_ (zK_ (zd_ 0 rfl) (zj_ (zs_ 0)))))) fun kinds_here_1=>zlq_ (i:=1) rfl (at_ [(Sl.fz (tySc K) c),(Sl.fz (tyL tyInt) kinds_here_1),Sl.dead,Sl.dead,Sl.dead,Sl.dead,Sl.dead,Sl.dead,Sl.dead,Sl.dead,Sl.dead,Sl.dead,Sl.dead,Sl.dead,Sl.dead,Sl.dead] (zdO_ (i:=2) rfl zb_ (zX_ zbc_ (zR_ (zK_ (zd_ 0 rfl) (zj_ (zs_ 2)))) (zs_ 5)) fun many_6=>(at_ [(Sl.fz (tySc K) c),(Sl.fz (tyL tyInt) kinds_here_1),(Sl.fz tyInt many_6),Sl.dead,Sl.dead,Sl.dead,Sl.dead,Sl.dead,Sl.dead,Sl.dead,Sl.dead,Sl.dead,Sl.dead,Sl.dead,Sl.dead,Sl.dead] (zdO_ (i:=3) rfl zb_ (zX_ zec_ (EvO.fr (zhO_ (zl_ zf_) (zem_ zdK_) (zK_ (zs_ 3) (zj_ (zs_ 9))))) (zX_ zbc_ (zR_ (zK_ (zd_ 0 rfl) (zj_ (zs_ 3)))) (zs_ 2))) fun most_12=>(at_ [(Sl.fz (tySc K) c),(Sl.fz (tyL tyInt) kinds_here_1),(Sl.fz tyInt many_6),(Sl.fz tyInt most_12),Sl.dead,Sl.dead,Sl.dead,Sl.dead,Sl.dead,Sl.dead,Sl.dead,Sl.dead,Sl.dead,Sl.dead,Sl.dead,Sl.dead] (zcV_ (i:=4) rfl (z1_ (zY_ (zt_ zb_ (zq_ zb_)))) (zd4_ (ei_l (EvO.fr (zdJ_ (zK_ (zR_ (zK_ (zd_ 0 rfl) (zj_ (zs_ 2)))) (zj_ (zd_ 2 rfl)))))) (zav_ 0) (fun _=>dead1) (fun x_30=>zdg_) (fun x_30=>(zR_ (zK_ (zd_ 0 rfl) (zj_ (zd_ 1 rfl)))))) fun sums_23=>zlq_ (i:=4) rfl (at_ [(Sl.fz (tySc K) c),(Sl.fz (tyL tyInt) kinds_here_1),(Sl.fz tyInt many_6),(Sl.fz tyInt most_12),(Sl.fz (tyL Qq2) sums_23),Sl.dead,Sl.dead,Sl.dead,Sl.dead,Sl.dead,Sl.dead,Sl.dead,Sl.dead,Sl.dead,Sl.dead,Sl.dead] (zcV_ (i:=5) rfl (z1_ (zY_ (zt_ zb_ (zq_ zb_)))) (zdJ_ (zj_ (zR_ (zK_ (zd_ 0 rfl) (zj_ (zs_ 4)))))) fun board_here_35=>zlq_ (i:=5) rfl (at_ [(Sl.fz (tySc K) c),(Sl.fz (tyL tyInt) kinds_here_1),(Sl.fz tyInt many_6),(Sl.fz tyInt most_12),(Sl.fz (tyL Qq2) sums_23),(Sl.fz (tyL Qq2) board_here_35),Sl.dead,Sl.dead,Sl.dead,Sl.dead,Sl.dead,Sl.dead,Sl.dead,Sl.dead,Sl.dead,Sl.dead] (zcV_ (i:=6) rfl (zbe_ (z1_ (zY_ (zt_ zb_ (zq_ zb_))))) (zo1_ (zke_ (ziz_ zgw_ (zj_ (zd_ 4 rfl))) (zke_ (ziz_ zgw_ (zj_ (zd_ 5 rfl))) zod_))) fun handed_40=>(at_ [(Sl.fz (tySc K) c),(Sl.fz (tyL tyInt) kinds_here_1),(Sl.fz tyInt many_6),(Sl.fz tyInt most_12),(Sl.fz (tyL Qq2) sums_23),(Sl.fz (tyL Qq2) board_here_35),(Sl.ow (owLO (owL Qq2)) handed_40),Sl.dead,Sl.dead,Sl.dead,Sl.dead,Sl.dead,Sl.dead,Sl.dead,Sl.dead,Sl.dead] (zcV_ (i:=7) rfl (zce_ (zm_ (z1_ (zY_ (zt_ zb_ (zq_ zb_)))) (zm_ (z1_ (zY_ (zt_ zb_ (zq_ zb_)))) (zm_ (z1_ (zY_ (zt_ zb_ (zq_ zb_)))) (zm_ (zbe_ (zbe_ (zce_ (zm_ (zv_ zb_) (zm_ (zv_ zb_) (zm_ (zv_ zb_) (zm_ (zv_ za3_) zar_))))))) (zm_ (zv_ (zc2_ zA_)) (zm_ (zfs_ za3_) zar_))))))) (zmi_ (zK_ (EvO.fr (zd1_ Qq2)) (zK_ (zX_ zec_ (zfr_ (O:=(owLO (owL Qq2))) 6 rfl) (zs_ 0)) (zK_ (zs_ 12) (zj_ (zX_ zec_ (zfr_ (O:=(owLO (owL Qq2))) 6 rfl) (zs_ 1))))))) fun counter_48=>(at_ [(Sl.fz (tySc K) c),(Sl.fz (tyL tyInt) kinds_here_1),(Sl.fz tyInt many_6),(Sl.fz tyInt most_12),(Sl.fz (tyL Qq2) sums_23),(Sl.fz (tyL Qq2) board_here_35),(Sl.ow (owLO (owL Qq2)) handed_40),(Sl.ow (Qq0 K) counter_48),Sl.dead,Sl.dead,Sl.dead,Sl.dead,Sl.dead,Sl.dead,Sl.dead,Sl.dead] (zeg_ (LS:=(fun _:Unit=>[(Sl.fz (tySc K) c),(Sl.fz (tyL tyInt) kinds_here_1),(Sl.fz tyInt many_6),(Sl.fz tyInt most_12),(Sl.fz (tyL Qq2) sums_23),(Sl.fz (tyL Qq2) board_here_35),(Sl.ow (owLO (owL Qq2)) handed_40),(Sl.ow (Qq0 K) counter_48),Sl.dead,Sl.dead,Sl.dead,Sl.dead,Sl.dead,Sl.dead,Sl.dead,Sl.dead])) (s_if (zdI_ (zX_ (zmC_ (zmX_ (zmX_ (zoc_ (zmv_ ziq_ (zmH_ ziq_)))))) (zfr_ (O:=(owLO (owL Qq2))) 6 rfl) (EvO.fr (zhO_ (zl_ zf_) (zem_ zdK_) (zK_ (zd_ 4 rfl) (zj_ (zd_ 5 rfl))))))) (zef_ (zv_ za3_) (EvF.ow (zkN_ false))) (zU_ (.same (.same (.same (.same (.same (.same (.same (.same (.same (.same (.same (.same (.same (.same (.same (.same .nil)))))))))))))))))) fun _=>(at_ [(Sl.fz (tySc K) c),(Sl.fz (tyL tyInt) kinds_here_1),(Sl.fz tyInt many_6),(Sl.fz tyInt most_12),(Sl.fz (tyL Qq2) sums_23),(Sl.fz (tyL Qq2) board_here_35),(Sl.ow (owLO (owL Qq2)) handed_40),(Sl.ow (Qq0 K) counter_48),Sl.dead,Sl.dead,Sl.dead,Sl.dead,Sl.dead,Sl.dead,Sl.dead,Sl.dead] (zkA_ (i:=6) (zot_ (zes_ rfl) (zs_ 0)) fun x_74=>(at_ [(Sl.fz (tySc K) c),(Sl.fz (tyL tyInt) kinds_here_1),(Sl.fz tyInt many_6),(Sl.fz tyInt most_12),(Sl.fz (tyL Qq2) sums_23),(Sl.fz (tyL Qq2) board_here_35),(Sl.ow (owLO (owL Qq2)) x_74),(Sl.ow (Qq0 K) counter_48),Sl.dead,Sl.dead,Sl.dead,Sl.dead,Sl.dead,Sl.dead,Sl.dead,Sl.dead] (zkA_ (i:=6) (zot_ (zes_ rfl) (zs_ 1)) fun x_80=>(at_ [(Sl.fz (tySc K) c),(Sl.fz (tyL tyInt) kinds_here_1),(Sl.fz tyInt many_6),(Sl.fz tyInt most_12),(Sl.fz (tyL Qq2) sums_23),(Sl.fz (tyL Qq2) board_here_35),(Sl.ow (owLO (owL Qq2)) x_80),(Sl.ow (Qq0 K) counter_48),Sl.dead,Sl.dead,Sl.dead,Sl.dead,Sl.dead,Sl.dead,Sl.dead,Sl.dead] (zcV_ (i:=8) rfl (z1_ zb_) (zpJ_ zmx_ (EvO.fr (zhO_ zf_ zdK_ (zj_ (zs_ 0)))) (zd_ 2 rfl)) fun totals_81=>zlq_ (i:=8) rfl (at_ [(Sl.fz (tySc K) c),(Sl.fz (tyL tyInt) kinds_here_1),(Sl.fz tyInt many_6),(Sl.fz tyInt most_12),(Sl.fz (tyL Qq2) sums_23),(Sl.fz (tyL Qq2) board_here_35),(Sl.ow (owLO (owL Qq2)) x_80),(Sl.ow (Qq0 K) counter_48),(Sl.fz (tyL tyInt) totals_81),Sl.dead,Sl.dead,Sl.dead,Sl.dead,Sl.dead,Sl.dead,Sl.dead] (zmh_ (i:=9) rfl (zd1_ (tyL tyStr)) fun told_85=>(at_ [(Sl.fz (tySc K) c),(Sl.fz (tyL tyInt) kinds_here_1),(Sl.fz tyInt many_6),(Sl.fz tyInt most_12),(Sl.fz (tyL Qq2) sums_23),(Sl.fz (tyL Qq2) board_here_35),(Sl.ow (owLO (owL Qq2)) x_80),(Sl.ow (Qq0 K) counter_48),(Sl.fz (tyL tyInt) totals_81),(Sl.ow (owL (tyL tyStr)) told_85),Sl.dead,Sl.dead,Sl.dead,Sl.dead,Sl.dead,Sl.dead] (zmh_ (i:=10) rfl (zd1_ (tyL tyStr)) fun due_86=>(at_ [(Sl.fz (tySc K) c),(Sl.fz (tyL tyInt) kinds_here_1),(Sl.fz tyInt many_6),(Sl.fz tyInt most_12),(Sl.fz (tyL Qq2) sums_23),(Sl.fz (tyL Qq2) board_here_35),(Sl.ow (owLO (owL Qq2)) x_80),(Sl.ow (Qq0 K) counter_48),(Sl.fz (tyL tyInt) totals_81),(Sl.ow (owL (tyL tyStr)) told_85),(Sl.ow (owL (tyL tyStr)) due_86),Sl.dead,Sl.dead,Sl.dead,Sl.dead,Sl.dead] (zeg_ (LS:=(fun s_87:((List (List (List Nat)))×(Qq1×((List (List (List Nat)))×(List Int))))=>[(Sl.fz (tySc K) c),(Sl.fz (tyL tyInt) kinds_here_1),(Sl.fz tyInt many_6),(Sl.fz tyInt most_12),(Sl.fz (tyL Qq2) sums_23),(Sl.fz (tyL Qq2) board_here_35),(Sl.ow (owLO (owL Qq2)) x_80),(Sl.ow (Qq0 K) s_87.2.1),(Sl.fz (tyL tyInt) s_87.2.2.2),(Sl.ow (owL (tyL tyStr)) s_87.1),(Sl.ow (owL (tyL tyStr)) s_87.2.2.1),Sl.dead,Sl.dead,Sl.dead,Sl.dead,Sl.dead])) (zcT_ (L':=[(Sl.fz (tySc K) c),(Sl.fz (tyL tyInt) kinds_here_1),(Sl.fz tyInt many_6),(Sl.fz tyInt most_12),(Sl.fz (tyL Qq2) sums_23),(Sl.fz (tyL Qq2) board_here_35),(Sl.ow (owLO (owL Qq2)) x_80),(Sl.ow (Qq0 K) counter_48),(Sl.fz (tyL tyInt) totals_81),(Sl.ow (owL (tyL tyStr)) told_85),(Sl.ow (owL (tyL tyStr)) due_86),Sl.dead,Sl.dead,Sl.dead,Sl.dead,Sl.dead]) (.same (.same (.same (.same (.same (.same (.same (.same (.same (.same (.same (.same (.same (.same (.same (.same .nil)))))))))))))))) (zhw_ (LS:=(fun s_87:((List (List (List Nat)))×(Qq1×((List (List (List Nat)))×(List Int))))=>[(Sl.fz (tySc K) c),(Sl.fz (tyL tyInt) kinds_here_1),(Sl.fz tyInt many_6),(Sl.fz tyInt most_12),(Sl.fz (tyL Qq2) sums_23),(Sl.fz (tyL Qq2) board_here_35),(Sl.ow (owLO (owL Qq2)) x_80),(Sl.ow (Qq0 K) s_87.2.1),(Sl.fz (tyL tyInt) s_87.2.2.2),(Sl.ow (owL (tyL tyStr)) s_87.1),(Sl.ow (owL (tyL tyStr)) s_87.2.2.1),Sl.dead,Sl.dead,Sl.dead,Sl.dead,Sl.dead])) (s0:=(told_85,counter_48,due_86,totals_81)) (zj6_ (zj_ (EvO.fr (zok_ (zd_ 0 rfl) (zlk_ (zs_ 5)) (zlk_ (zs_ 65)))))) (zjr_ (zl_ zf_) (zg9_ 11 (zgB_ (zav_ 12)))) fun s_87 x_94=>at_ [(Sl.fz (tySc K) c),(Sl.fz (tyL tyInt) kinds_here_1),(Sl.fz tyInt many_6),(Sl.fz tyInt most_12),(Sl.fz (tyL Qq2) sums_23),(Sl.fz (tyL Qq2) board_here_35),(Sl.ow (owLO (owL Qq2)) x_80),(Sl.ow (Qq0 K) s_87.2.1),(Sl.fz (tyL tyInt) s_87.2.2.2),(Sl.ow (owL (tyL tyStr)) s_87.1),(Sl.ow (owL (tyL tyStr)) s_87.2.2.1),(Sl.fz tyInt x_94.1),(Sl.fz tyInt x_94.2),Sl.dead,Sl.dead,Sl.dead] (zdO_ (i:=13) rfl zA_ (zR_ (zK_ (zd_ 12 rfl) (zK_ (zd_ 11 rfl) (zj_ (zd_ 1 rfl))))) fun card_here_95=>(at_ [(Sl.fz (tySc K) c),(Sl.fz (tyL tyInt) kinds_here_1),(Sl.fz tyInt many_6),(Sl.fz tyInt most_12),(Sl.fz (tyL Qq2) sums_23),(Sl.fz (tyL Qq2) board_here_35),(Sl.ow (owLO (owL Qq2)) x_80),(Sl.ow (Qq0 K) s_87.2.1),(Sl.fz (tyL tyInt) s_87.2.2.2),(Sl.ow (owL (tyL tyStr)) s_87.1),(Sl.ow (owL (tyL tyStr)) s_87.2.2.1),(Sl.fz tyInt x_94.1),(Sl.fz tyInt x_94.2),(Sl.fz tyStr card_here_95),Sl.dead,Sl.dead] (zoh_ (O1:=(owL tyStr)) (w:=9) rfl (by decide) (zca_ (m := "feed") (ns:=Qn0) (by decide +kernel) (zce_ (zm_ (z1_ (zY_ (zt_ zb_ (zq_ zb_)))) (zm_ (z1_ (zY_ (zt_ zb_ (zq_ zb_)))) (zm_ (z1_ (zY_ (zt_ zb_ (zq_ zb_)))) (zm_ (zbe_ (zbe_ (zce_ (zm_ (zv_ zb_) (zm_ (zv_ zb_) (zm_ (zv_ zb_) (zm_ (zv_ za3_) zar_))))))) (zm_ (zv_ (zc2_ zA_)) (zm_ (zfs_ za3_) zar_))))))) (z1_ zA_) (zdE_ rfl) (zdL_ (zff_ zA_ (zd_ 13 rfl)))) fun q_104=>(at_ [(Sl.fz (tySc K) c),(Sl.fz (tyL tyInt) kinds_here_1),(Sl.fz tyInt many_6),(Sl.fz tyInt most_12),(Sl.fz (tyL Qq2) sums_23),(Sl.fz (tyL Qq2) board_here_35),(Sl.ow (owLO (owL Qq2)) x_80),(Sl.ow (Qq0 K) q_104.2),(Sl.fz (tyL tyInt) s_87.2.2.2),(Sl.ow (owL (tyL tyStr)) (s_87.1++[q_104.1])),(Sl.ow (owL (tyL tyStr)) s_87.2.2.1),(Sl.fz tyInt x_94.1),(Sl.fz tyInt x_94.2),(Sl.fz tyStr card_here_95),Sl.dead,Sl.dead] (zlg_ (i:=10) rfl (EvO.fr (zhO_ zf_ zdK_ (zj_ (zR_ (zK_ (zd_ 13 rfl) (zj_ (zd_ 5 rfl))))))) fun a_109=>(at_ [(Sl.fz (tySc K) c),(Sl.fz (tyL tyInt) kinds_here_1),(Sl.fz tyInt many_6),(Sl.fz tyInt most_12),(Sl.fz (tyL Qq2) sums_23),(Sl.fz (tyL Qq2) board_here_35),(Sl.ow (owLO (owL Qq2)) x_80),(Sl.ow (Qq0 K) q_104.2),(Sl.fz (tyL tyInt) s_87.2.2.2),(Sl.ow (owL (tyL tyStr)) (s_87.1++[q_104.1])),(Sl.ow (owL (tyL tyStr)) (s_87.2.2.1++[a_109])),(Sl.fz tyInt x_94.1),(Sl.fz tyInt x_94.2),(Sl.fz tyStr card_here_95),Sl.dead,Sl.dead] (zeg_ (LS:=(fun _:Unit=>[(Sl.fz (tySc K) c),(Sl.fz (tyL tyInt) kinds_here_1),(Sl.fz tyInt many_6),(Sl.fz tyInt most_12),(Sl.fz (tyL Qq2) sums_23),(Sl.fz (tyL Qq2) board_here_35),(Sl.ow (owLO (owL Qq2)) x_80),(Sl.ow (Qq0 K) q_104.2),(Sl.fz (tyL tyInt) s_87.2.2.2),(Sl.ow (owL (tyL tyStr)) (s_87.1++[q_104.1])),(Sl.ow (owL (tyL tyStr)) (s_87.2.2.1++[a_109])),(Sl.fz tyInt x_94.1),(Sl.fz tyInt x_94.2),(Sl.fz tyStr card_here_95),Sl.dead,Sl.dead])) (s_if (znh_ (zdI_ (zR_ (zK_ (zX_ zec_ (zfR_ 9 rfl) (zd_ 11 rfl)) (zj_ (zX_ zec_ (zfR_ 10 rfl) (zd_ 11 rfl))))))) (zef_ (zv_ za3_) (EvF.ow (zkN_ false))) (zU_ (.same (.same (.same (.same (.same (.same (.same (.same (.same (.same (.same (.same (.same (.same (.same (.same .nil)))))))))))))))))) fun _=>(at_ [(Sl.fz (tySc K) c),(Sl.fz (tyL tyInt) kinds_here_1),(Sl.fz tyInt many_6),(Sl.fz tyInt most_12),(Sl.fz (tyL Qq2) sums_23),(Sl.fz (tyL Qq2) board_here_35),(Sl.ow (owLO (owL Qq2)) x_80),(Sl.ow (Qq0 K) q_104.2),(Sl.fz (tyL tyInt) s_87.2.2.2),(Sl.ow (owL (tyL tyStr)) (s_87.1++[q_104.1])),(Sl.ow (owL (tyL tyStr)) (s_87.2.2.1++[a_109])),(Sl.fz tyInt x_94.1),(Sl.fz tyInt x_94.2),(Sl.fz tyStr card_here_95),Sl.dead,Sl.dead] (zeB_ (zcV_ (i:=8) rfl (z1_ zb_) (zd4_ (zqq_ (zK_ (zd_ 8 rfl) (zj_ (zd_ 4 rfl)))) (zjr_ (zl_ zf_) (zg9_ 0 (zgB_ (zav_ 1)))) (fun _=>dead2) (fun x_125=>zdg_) (fun x_125=>(zX_ zbz_ (zd_ 0 rfl) (zR_ (zK_ (zd_ 2 rfl) (zj_ (zd_ 1 rfl))))))) fun totals_121=>zlq_ (i:=8) rfl (at_ [(Sl.fz (tySc K) c),(Sl.fz (tyL tyInt) kinds_here_1),(Sl.fz tyInt many_6),(Sl.fz tyInt most_12),(Sl.fz (tyL Qq2) sums_23),(Sl.fz (tyL Qq2) board_here_35),(Sl.ow (owLO (owL Qq2)) x_80),(Sl.ow (Qq0 K) q_104.2),(Sl.fz (tyL tyInt) totals_121),(Sl.ow (owL (tyL tyStr)) (s_87.1++[q_104.1])),(Sl.ow (owL (tyL tyStr)) (s_87.2.2.1++[a_109])),(Sl.fz tyInt x_94.1),(Sl.fz tyInt x_94.2),(Sl.fz tyStr card_here_95),Sl.dead,Sl.dead] (zU_ (.same (.same (.same (.same (.same (.same (.same (.same (.same (.same (.same (.dead (.dead (.dead (.same (.same .nil)))))))))))))))))))))))))))))) fun s_87=>(at_ [(Sl.fz (tySc K) c),(Sl.fz (tyL tyInt) kinds_here_1),(Sl.fz tyInt many_6),(Sl.fz tyInt most_12),(Sl.fz (tyL Qq2) sums_23),(Sl.fz (tyL Qq2) board_here_35),(Sl.ow (owLO (owL Qq2)) x_80),(Sl.ow (Qq0 K) s_87.2.1),(Sl.fz (tyL tyInt) s_87.2.2.2),(Sl.ow (owL (tyL tyStr)) s_87.1),(Sl.ow (owL (tyL tyStr)) s_87.2.2.1),Sl.dead,Sl.dead,Sl.dead,Sl.dead,Sl.dead] (zeg_ (LS:=(fun _:Unit=>[(Sl.fz (tySc K) c),(Sl.fz (tyL tyInt) kinds_here_1),(Sl.fz tyInt many_6),(Sl.fz tyInt most_12),(Sl.fz (tyL Qq2) sums_23),(Sl.fz (tyL Qq2) board_here_35),(Sl.ow (owLO (owL Qq2)) x_80),(Sl.ow (Qq0 K) s_87.2.1),(Sl.fz (tyL tyInt) s_87.2.2.2),(Sl.ow (owL (tyL tyStr)) s_87.1),(Sl.ow (owL (tyL tyStr)) s_87.2.2.1),Sl.dead,Sl.dead,Sl.dead,Sl.dead,Sl.dead])) (s_if (zdI_ (zX_ (zmC_ (zmX_ ziq_)) (EvO.fr (zh6_ (m := "overs") (ns:=Qn0) (by decide +kernel) (zl8_ (P:=(Qq7 K)) 7 rfl))) (EvO.fr (zd1_ tyInt)))) (zef_ (zv_ za3_) (EvF.ow (zkN_ false))) (zU_ (.same (.same (.same (.same (.same (.same (.same (.same (.same (.same (.same (.same (.same (.same (.same (.same .nil)))))))))))))))))) fun _=>(at_ [(Sl.fz (tySc K) c),(Sl.fz (tyL tyInt) kinds_here_1),(Sl.fz tyInt many_6),(Sl.fz tyInt most_12),(Sl.fz (tyL Qq2) sums_23),(Sl.fz (tyL Qq2) board_here_35),(Sl.ow (owLO (owL Qq2)) x_80),(Sl.ow (Qq0 K) s_87.2.1),(Sl.fz (tyL tyInt) s_87.2.2.2),(Sl.ow (owL (tyL tyStr)) s_87.1),(Sl.ow (owL (tyL tyStr)) s_87.2.2.1),Sl.dead,Sl.dead,Sl.dead,Sl.dead,Sl.dead] (zdO_ (i:=14) rfl zA_ (zcR_ [42]) fun line_139=>(at_ [(Sl.fz (tySc K) c),(Sl.fz (tyL tyInt) kinds_here_1),(Sl.fz tyInt many_6),(Sl.fz tyInt most_12),(Sl.fz (tyL Qq2) sums_23),(Sl.fz (tyL Qq2) board_here_35),(Sl.ow (owLO (owL Qq2)) x_80),(Sl.ow (Qq0 K) s_87.2.1),(Sl.fz (tyL tyInt) s_87.2.2.2),(Sl.ow (owL (tyL tyStr)) s_87.1),(Sl.ow (owL (tyL tyStr)) s_87.2.2.1),Sl.dead,Sl.dead,Sl.dead,(Sl.fz tyStr line_139),Sl.dead] (zeg_ (LS:=(fun s_140:(List Nat)=>[(Sl.fz (tySc K) c),(Sl.fz (tyL tyInt) kinds_here_1),(Sl.fz tyInt many_6),(Sl.fz tyInt most_12),(Sl.fz (tyL Qq2) sums_23),(Sl.fz (tyL Qq2) board_here_35),(Sl.ow (owLO (owL Qq2)) x_80),(Sl.ow (Qq0 K) s_87.2.1),(Sl.fz (tyL tyInt) s_87.2.2.2),(Sl.ow (owL (tyL tyStr)) s_87.1),(Sl.ow (owL (tyL tyStr)) s_87.2.2.1),Sl.dead,Sl.dead,Sl.dead,(Sl.fz tyStr s_140),Sl.dead])) (zcT_ (L':=[(Sl.fz (tySc K) c),(Sl.fz (tyL tyInt) kinds_here_1),(Sl.fz tyInt many_6),(Sl.fz tyInt most_12),(Sl.fz (tyL Qq2) sums_23),(Sl.fz (tyL Qq2) board_here_35),(Sl.ow (owLO (owL Qq2)) x_80),(Sl.ow (Qq0 K) s_87.2.1),(Sl.fz (tyL tyInt) s_87.2.2.2),(Sl.ow (owL (tyL tyStr)) s_87.1),(Sl.ow (owL (tyL tyStr)) s_87.2.2.1),Sl.dead,Sl.dead,Sl.dead,(Sl.fz tyStr line_139),Sl.dead]) (.same (.same (.same (.same (.same (.same (.same (.same (.same (.same (.same (.same (.same (.same (.same (.same .nil)))))))))))))))) (zhw_ (LS:=(fun s_140:(List Nat)=>[(Sl.fz (tySc K) c),(Sl.fz (tyL tyInt) kinds_here_1),(Sl.fz tyInt many_6),(Sl.fz tyInt most_12),(Sl.fz (tyL Qq2) sums_23),(Sl.fz (tyL Qq2) board_here_35),(Sl.ow (owLO (owL Qq2)) x_80),(Sl.ow (Qq0 K) s_87.2.1),(Sl.fz (tyL tyInt) s_87.2.2.2),(Sl.ow (owL (tyL tyStr)) s_87.1),(Sl.ow (owL (tyL tyStr)) s_87.2.2.1),Sl.dead,Sl.dead,Sl.dead,(Sl.fz tyStr s_140),Sl.dead])) (s0:=line_139) (ei_l (zd_ 8 rfl)) (zav_ 15) fun s_140 x_141=>at_ [(Sl.fz (tySc K) c),(Sl.fz (tyL tyInt) kinds_here_1),(Sl.fz tyInt many_6),(Sl.fz tyInt most_12),(Sl.fz (tyL Qq2) sums_23),(Sl.fz (tyL Qq2) board_here_35),(Sl.ow (owLO (owL Qq2)) x_80),(Sl.ow (Qq0 K) s_87.2.1),(Sl.fz (tyL tyInt) s_87.2.2.2),(Sl.ow (owL (tyL tyStr)) s_87.1),(Sl.ow (owL (tyL tyStr)) s_87.2.2.1),Sl.dead,Sl.dead,Sl.dead,(Sl.fz tyStr s_140),(Sl.fz tyInt x_141)] (zeB_ (zdO_ (i:=14) rfl zA_ (zX_ zdC_ (zX_ zdC_ (zd_ 14 rfl) (zcR_ [32])) (zR_ (zK_ (zd_ 15 rfl) (zj_ (zs_ 12))))) fun line_142=>(at_ [(Sl.fz (tySc K) c),(Sl.fz (tyL tyInt) kinds_here_1),(Sl.fz tyInt many_6),(Sl.fz tyInt most_12),(Sl.fz (tyL Qq2) sums_23),(Sl.fz (tyL Qq2) board_here_35),(Sl.ow (owLO (owL Qq2)) x_80),(Sl.ow (Qq0 K) s_87.2.1),(Sl.fz (tyL tyInt) s_87.2.2.2),(Sl.ow (owL (tyL tyStr)) s_87.1),(Sl.ow (owL (tyL tyStr)) s_87.2.2.1),Sl.dead,Sl.dead,Sl.dead,(Sl.fz tyStr line_142),(Sl.fz tyInt x_141)] (zU_ (.same (.same (.same (.same (.same (.same (.same (.same (.same (.same (.same (.same (.same (.same (.same (.dead .nil)))))))))))))))))))))) fun s_140=>(at_ [(Sl.fz (tySc K) c),(Sl.fz (tyL tyInt) kinds_here_1),(Sl.fz tyInt many_6),(Sl.fz tyInt most_12),(Sl.fz (tyL Qq2) sums_23),(Sl.fz (tyL Qq2) board_here_35),(Sl.ow (owLO (owL Qq2)) x_80),(Sl.ow (Qq0 K) s_87.2.1),(Sl.fz (tyL tyInt) s_87.2.2.2),(Sl.ow (owL (tyL tyStr)) s_87.1),(Sl.ow (owL (tyL tyStr)) s_87.2.2.1),Sl.dead,Sl.dead,Sl.dead,(Sl.fz tyStr s_140),Sl.dead] (by refine zqp_ (tc:=(tMeth (gA K "Counter") "finish" (zF_ K) [] E0 (mVar 7) tNil)) (te2:=(mAndV (tCall (zah_ K) [] E0 (tCons (mVar 16) (tCons (tLst (tCons (mVar 14) tNil)) tNil))) (mAndV (tOp (mEqK K) (tMeth (gA K "Counter") "overs" (zE_ K) [] E0 (mVar 7) tNil) (tLst tNil)) (tOp (mEqK K) (mVar 9) (mVar 10))))) za3_ (zca_ (m := "finish") (ns:=Qn0) (by decide +kernel) (zce_ (zm_ (z1_ (zY_ (zt_ zb_ (zq_ zb_)))) (zm_ (z1_ (zY_ (zt_ zb_ (zq_ zb_)))) (zm_ (z1_ (zY_ (zt_ zb_ (zq_ zb_)))) (zm_ (zbe_ (zbe_ (zce_ (zm_ (zv_ zb_) (zm_ (zv_ zb_) (zm_ (zv_ zb_) (zm_ (zv_ za3_) zar_))))))) (zm_ (zv_ (zc2_ zA_)) (zm_ (zfs_ za3_) zar_))))))) (z1_ zA_) (zdE_ rfl) zoe_) (fun q_154=>atF [(Sl.fz (tySc K) c),(Sl.fz (tyL tyInt) kinds_here_1),(Sl.fz tyInt many_6),(Sl.fz tyInt most_12),(Sl.fz (tyL Qq2) sums_23),(Sl.fz (tyL Qq2) board_here_35),(Sl.ow (owLO (owL Qq2)) x_80),(Sl.ow (Qq0 K) q_154.2),(Sl.fz (tyL tyInt) s_87.2.2.2),(Sl.ow (owL (tyL tyStr)) s_87.1),(Sl.ow (owL (tyL tyStr)) s_87.2.2.1),Sl.dead,Sl.dead,Sl.dead,(Sl.fz tyStr s_140),Sl.dead,(Sl.fz (tyL tyStr) q_154.1)] (zop_ (zR_ (zK_ (zd_ 16 rfl) (zj_ (EvO.fr (zhO_ zf_ zdK_ (zj_ (zd_ 14 rfl))))))) (zop_ (zX_ (znN_ (zmX_ ziq_)) (EvO.fr (zh6_ (m := "overs") (ns:=Qn0) (by decide +kernel) (zl8_ (P:=(Qq7 K)) 7 rfl))) (EvO.fr (zd1_ tyInt))) (zX_ (znN_ (zmX_ (zmX_ zlZ_))) (zfR_ 9 rfl) (zfR_ 10 rfl))))) ?_; intro σ hσ H Q z; exact match σ,hσ,z with | [o0,o1,o2,o3,o4,o5,o6,o7,o8,o9,o10,o11,o12,o13,o14,o15],_,z=>z)))))))))))))))))))))))))))))))))))
theorem zk2_ (hf:∀ ns:List Int,ns.length≤63→BitsOk ns→zpf_ ns=.ok true) {K:PySem.W.Frag}:RD_law K:=by
 rintro vs H Q E ⟨a,ns,rfl,hS,hl,hb,q⟩
 refine ze0_ (K:=K) (N:=Qn1) (C:=(csLast (tySc K))) (O:=owF tyBl) (t:=fun E=>zoB_ K) (ss:=fun c=>[(Sl.fz (tySc K) c)]) (f:=fun c=>zpc_ c) 1 15 zf_ rfl zL_ (fun c E=>zpF_ c) _ H Q E ⟨H,ns,Same.refl _,⟨_,rfl,a,rfl,hS⟩,?_⟩
 show After K (zpf_ ns) E H H _
 rw [hf ns hl hb]
 rintro F' H' x v h _ _ _ ⟨_,rfl⟩
 exact q H'
end K33
namespace K33
open PySem PySem.Spec PyProof.Rows L2
local macro_rules | `(tactic| walk_at "mo") => `(tactic| simp only [Mo.okB, Mo.exB, Mo.noB, Mo.noexO, Mo.optS, zgh_, zmL_, zmG_, zm2_, zpX_, zmB_, zoq_, znQ_, zmV_, grd_T, Bool.not_true, Bool.not_false, if_true, if_false, Bool.false_eq_true, Option.map_some, Option.map_none, ite_true, ite_false, Int.reduceLT, Int.reduceLE, Int.reduceNeg, Int.reduceSub, Int.reduceAdd, Int.reduceMul, Nat.reduceAdd, Nat.reduceLT, decide_true, decide_false, Option.isSome_none, Option.isSome_some, Option.isNone_none, Option.isNone_some, Bool.and_true, Bool.and_false])
theorem ziw_ (ns:List Int) (k:Int) (h:0≤k):∃ c,zaz_ ns k=.ok c:=by
 unfold zaz_ zb7_
 walk_at "mo"
 by_cases hk:k<(ns.length:Int)
 ·obtain ⟨x,e,_⟩:=zcB_ h hk
  rw [decide_eq_true hk,if_pos rfl,e]
  exact ⟨x,rfl⟩
 ·rw [decide_eq_false hk,if_neg (by decide)]
  exact ⟨0,rfl⟩
theorem fold10 {α:Type}:∀ (xs:List α) (a:Int),xs.foldl (fun s _=>10*s) a=10 ^ xs.length*a
 | [],a=>by simp
 | x::xs,a=>by rw [List.foldl_cons,fold10 xs,List.length_cons,Int.pow_succ,Int.mul_assoc]
theorem zlw_ {n:Int}(h0:0≤n) (h1:n≤1000):zgi_ n=.ok (10 ^ n.toNat):=by
 unfold zgi_ zge_
 simp only [Mo.okB]
 rw [Mo.grd_ok ⟨by omega,by omega⟩,Mo.okB,zd2_ (fun s _=>10*s) (fun s x _=>by rw [zkC_ (by decide) (by decide)]; simp [Int.mul_comm]),fold10,zcO_]
 simp
theorem zd8_ (n:Nat):(0:Int)<10 ^ n:=Int.pow_pos (by decide)
theorem zmu_ {v:Int}{n:Nat}(h0:0≤v) (h1:v<10 ^ n) (hn:n≤100):v.natAbs.log2<1920:=by
 have h2:v.natAbs<10 ^ n:=by
  have e1:(10:Int) ^ n=((10 ^ n:Nat):Int):=by rw [Int.natCast_pow]; rfl
  rw [e1] at h1; omega
 have h3:10 ^ n≤10 ^ 100:=Nat.pow_le_pow_right (by decide) hn
 have h4:(10:Nat) ^ 100<2 ^ 1000:=by decide
 rcases log2_lt (Nat.lt_of_lt_of_le (Nat.lt_of_lt_of_le h2 h3) (Nat.le_of_lt h4)) with q | q
 ·omega
 ·rw [q]; decide
theorem znl_ {w:Nat}{v:Int}(hw:1≤w) (h0:0≤v) (h1:v<10 ^ w):zfL (strI v) (w:Int)=digs w v.toNat:=by
 obtain ⟨m,rfl⟩:=Int.eq_ofNat_of_zero_le h0
 rw [ziW_]
 have h2:m<10 ^ w:=by
  have e1:(10:Int) ^ w=((10 ^ w:Nat):Int):=by rw [Int.natCast_pow]; rfl
  rw [e1] at h1; omega
 exact zkj_ hw h2
theorem zkV_ (v:Int) {j w:Nat}(h:j<w):((v % 10 ^ w).toNat / 10 ^ j % 10:Nat)=(v / 10 ^ j % 10).toNat:=by
 have hp:=zd8_ j
 have hw:=zd8_ w
 obtain ⟨d,rfl⟩:∃ d,w=j+(d+1):=⟨w-j-1,by omega⟩
 have e0:v=v % 10 ^ (j+(d+1))+10 ^ j*(10*(10 ^ d*(v / 10 ^ (j+(d+1))))):=by
  have:=Int.emod_add_mul_ediv v (10 ^ (j+(d+1)))
  rw [← Int.mul_assoc 10,← Int.mul_assoc (10 ^ j),show (10:Int) ^ j*(10*10 ^ d)=10 ^ (j+(d+1)) by rw [Int.pow_add,Int.pow_succ]; simp [Int.mul_comm,Int.mul_left_comm,Int.mul_assoc]]
  omega
 have h0:0≤v % 10 ^ (j+(d+1)):=Int.emod_nonneg v (Int.ne_of_gt hw)
 generalize v % 10 ^ (j+(d+1))=m at *
 generalize (10 ^ d*(v / 10 ^ (j+(d+1))))=q at *
 subst e0
 rw [Int.add_mul_ediv_left _ _ (Int.ne_of_gt hp),Int.add_mul_emod_self_left]
 obtain ⟨n,rfl⟩:=Int.eq_ofNat_of_zero_le h0
 rw [Int.toNat_natCast,show (10:Int) ^ j=((10 ^ j:Nat):Int) by rw [Int.natCast_pow]; rfl]
 omega
noncomputable def isF (f:Int×Int):Prop:=1≤f.1∧f.1≤f.2∧f.2≤36
noncomputable def prt (c:List Nat) (f:Int×Int):List Nat:=cutG c (some (f.1-1)) (some f.2)
noncomputable def num (c:List Nat) (f:Int×Int):Int:=numL ((prt c f).map fig)
theorem znZ_ (c:List Nat) (f:Int×Int) (h:c.length≤100000):zb8_ c f=.ok (prt c f):=by
 unfold zb8_ zeZ_
 walk_at "mo"
 rw [Mo.lim_ok h]
 rfl
theorem zhh_ (l:List Nat) (h:∀ c∈l,48≤c∧c≤57):zdm_ l=.ok (numL l):=by
 unfold zdm_ zdl_
 walk_at "mo"
 rw [zd2_ (fun (s:Int) (x:List Nat)=>s*10+((x.headD 0:Nat)-48))]
 ·rw [List.foldl_map]
  rfl
 ·intro s x hx
  obtain ⟨c,hc,rfl⟩:=List.mem_map.mp hx
  rw [zkC_ (by decide) (by decide)]
  walk_at "mo"
  have:=h c hc
  rw [zgJ_ this,Mo.grd_ok (by omega)]
  rfl
theorem zg5_ (l:List Nat):joinS [] (strsL (l.map fun c=>[c]))=l:=by
 have:=L2.zkS_ l
 unfold strsL
 rw [List.map_map]
 exact this
theorem zk6_ (c:List Nat) (f:Int×Int) (h:c.length≤1000):zck_ c f=.ok (num c f):=by
 unfold zck_ zdv_
 walk_at "mo"
 have hp:(prt c f).length≤1000:=Nat.le_trans (zhq_ _ _ _) h
 rw [znZ_ c f (by omega)]
 walk_at "mo"
 rw [zbB_ (g:=fun x=>[fig (x.headD 0)]) (fun x hx=>?_) (by rw [List.length_map]; simp; omega)]
 ·walk_at "mo"
  have e:List.map (fun x:List Nat=>[fig (x.headD 0)]) (List.map (fun c=>[c]) (prt c f))=((prt c f).map fig).map fun c=>[c]:=by
   rw [List.map_map,List.map_map]; rfl
  rw [List.nil_append,e,zg5_,Mo.grd_ok,Mo.okB,zhh_ _ (fun c hc=>?_)]
  ·rfl
  ·obtain ⟨b,_,rfl⟩:=List.mem_map.mp hc
   exact zf2_ b
  ·refine ze1_ ?_ ?_
   ·unfold strsL; simp [Str.length]; omega
   ·intro z hz
    unfold strsL at hz
    rw [List.map_map] at hz
    obtain ⟨b,_,rfl⟩:=List.mem_map.mp hz
    exact Nat.le_refl 1
 ·obtain ⟨d,hd,rfl⟩:=List.mem_map.mp hx
  rw [zlE_]
  unfold fig cond1
  by_cases q:48≤d∧d≤57
  ·simp [q]
  ·simp [q]
theorem zkl_:∀ (l:List Nat) (a:Int),(∀ c∈l,48≤c∧c≤57)→0≤a→0≤l.foldl (fun (v:Int) (c:Nat)=>v*10+((c:Int)-48)) a∧l.foldl (fun (v:Int) (c:Nat)=>v*10+((c:Int)-48)) a<(a+1)*10 ^ l.length
 | [],a,_,h=>by simp; omega
 | c::l,a,hc,h=>by
  have h1:=hc c (List.mem_cons_self ..)
  have:=zkl_ l (a*10+((c:Int)-48)) (fun d hd=>hc d (List.mem_cons_of_mem _ hd)) (by omega)
  rw [List.foldl_cons,List.length_cons]
  refine ⟨this.1,Int.lt_of_lt_of_le this.2 ?_⟩
  rw [Int.pow_succ,Int.mul_comm (10 ^ l.length) 10,← Int.mul_assoc]
  exact Int.mul_le_mul_of_nonneg_right (by omega) (Int.pow_nonneg (by decide))
theorem zfz_ {lo:Int}{n:Nat}{d r:List Int}{x:Int}(h:rngI lo n=d++x::r):x=lo+d.length∧d.length<n:=by
 have hl:=congrArg List.length h
 rw [zcO_,List.length_append,List.length_cons] at hl
 have hd:d.length<n:=by omega
 have h1:(rngI lo n)[d.length]?=some x:=by rw [h]; simp
 unfold rngI at h1
 rw [List.getElem?_map,List.getElem?_range hd] at h1
 simp at h1
 exact ⟨h1.symm,hd⟩
noncomputable abbrev Wr:=Int×Int
noncomputable def okW (w:Wr):Prop:=1≤w.1∧w.1≤40∧1≤w.2∧w.2≤36
noncomputable def sgn (c:List Nat) (B:List Wr) (col:Int):Nat:=B.foldl (fun s w=>if w.2=col then c.getD (w.1-1).toNat 0 else s) 32
noncomputable def laid (c:List Nat) (B:List Wr):List Nat:=(List.range 36).map fun i:Nat=>sgn c B (i+1)
theorem zkM_ (c:List Nat) (B:List Wr) (w:Wr) (col:Int):sgn c (B++[w]) col=if w.2=col then c.getD (w.1-1).toNat 0 else sgn c B col:=by
 unfold sgn; rw [List.foldl_append]; rfl
theorem zlP_ {c:List Nat}(hc:c.length=40) {k:Int}(h1:1≤k) (h2:k≤40):atI c (k-1)=some (c.getD (k-1).toNat 0):=by
 rw [zmr_ (by omega),List.getD_eq_getElem?_getD,List.getElem?_eq_getElem (by omega)]
 rfl
theorem zj8_ {c:List Nat}(hc:c.length=40) {k:Int}(h1:1≤k) (h2:k≤40):zeU_ c k=.ok [c.getD (k-1).toNat 0]:=by
 unfold zeU_ zeS_
 walk_at "mo"
 rw [Mo.lim_ok (by omega),zlP_ hc h1 h2]
 rfl
theorem zpp_ {c:List Nat}(hc:c.length=40) {B:List Wr}(hB:∀ w∈B,okW w):zeX_ c B=.ok (laid c B):=by
 unfold zeX_ zeR_
 walk_at "mo"
 rw [Mo.grd_ok (by decide)]
 walk_at "mo"
 rw [zbB_ (f:=fun x_3=>cond1 (Mo.ok true) (Mo.ok [32])) (g:=fun _=>[32]) (fun x hx=>rfl) (by decide)]
 walk_at "mo"
 refine zbA_ (G:=fun m=>fnO (thenO m _)=_) (fun d (s:List (List Nat))=>s=(List.range 36).map fun i:Nat=>[sgn c d (i+1)]) rfl (fun d w s hx hs=>?_) (fun s hs=>?_)
 ·obtain ⟨r,hr⟩:=hx
  obtain ⟨a1,a2,a3,a4⟩:=hB w (by rw [hr]; simp)
  subst hs
  rw [zj8_ hc a1 a2]
  walk_at "mo"
  rw [zmO_ (by omega) (by rw [List.length_map,List.length_range]; omega)]
  refine ⟨_,rfl,?_⟩
  apply List.ext_getElem?
  intro i
  rw [List.getElem?_set,List.getElem?_map,List.getElem?_map]
  by_cases hi:i<36
  ·rw [List.getElem?_range hi]
   simp only [Option.map_some,zkM_,List.length_map,List.length_range]
   by_cases e:(w.2-1).toNat=i
   ·rw [if_pos e,if_pos (by omega),if_pos (by omega)]
   ·rw [if_neg e,if_neg (by omega)]
  ·rw [List.getElem?_eq_none (by rw [List.length_range]; omega),if_neg (by omega)]
   rfl
 ·subst hs
  walk_at "mo"
  have e:((List.range 36).map fun i:Nat=>[sgn c B (i+1)])=(laid c B).map fun x=>[x]:=by unfold laid; rw [List.map_map]; rfl
  rw [e,zg5_,Mo.grd_ok]
  ·rfl
  ·refine ze1_ ?_ ?_
   ·unfold strsL laid; simp [Str.length]
   ·intro z hz
    unfold strsL at hz
    rw [List.map_map] at hz
    obtain ⟨b,_,rfl⟩:=List.mem_map.mp hz
    exact Nat.le_refl 1
theorem zeW_ (cell:Int) {many:Int}(h0:0≤many) (h1:many≤5000):∃ ns,zbj_ cell many=.ok ns∧ns.length=many.toNat:=by
 unfold zbj_ zcw_
 walk_at "mo"
 rw [Mo.grd_ok ⟨by omega,by omega⟩]
 walk_at "mo"
 have hn:many.toNat≤5000:=by omega
 generalize many.toNat=n at hn
 refine zbA_ (G:=fun m=>∃ c:List Int,fnO (thenO m _)=.ok c∧c.length=n) (fun d (s:Int×List Int)=>s.2.length=d.length∧0≤s.1∧s.1<4294967296) ⟨rfl,by show 0≤cell % 2147483647+48271; omega,by show cell % 2147483647+48271<4294967296; omega⟩ ?_ ?_
 ·rintro d x ⟨nn,cs⟩ ⟨r,hr⟩ ⟨q1,q3,q4⟩
  have hd:d.length≤5000:=by
   have:=congrArg List.length hr
   rw [zcO_,List.length_append] at this; omega
  simp only at q1 q3 q4
  have hmul:IntMulOk nn nn:=ze4_ (.inl ⟨by omega,by omega⟩)
  walk_at "mo"
  rw [Mo.grd_ok hmul]
  walk_at "mo"
  rw [Mo.lim_ok (by omega)]
  exact ⟨_,rfl,by simp; exact q1,Int.emod_nonneg _ (by decide),Int.lt_trans (Int.emod_lt_of_pos _ (by decide)) (by decide)⟩
 ·rintro s ⟨q1,_,_⟩
  rw [zcO_] at q1
  exact ⟨s.2,rfl,q1⟩
noncomputable abbrev Whl:=Int×(Int×(Int×(Bool×Unit)))
noncomputable def whl (f:Nat) (k:Int) (o:Bool):Whl:=((f:Int),10 ^ f,k,o,())
theorem znY_ {f:Nat}(h:f≤100):z4_ () f=.ok ((),whl f 0 false):=by
 unfold z4_ zbs_
 walk_at "mo"
 rw [zlw_ (by omega) (by omega)]
 rfl
theorem zo4_ {f:Nat}{k v:Int}{o:Bool}:zcL_ (whl f k o) v=.ok ((),whl f ((k+v) % 10 ^ f) (o || decide ((10:Int) ^ f≤k+v))):=by
 unfold zcL_ zcy_
 walk_at "mo"
 have e1:(whl f k o).snd.fst=(10:Int) ^ f:=rfl
 have e2:(whl f k o).snd.snd.fst=k:=rfl
 rw [e1,e2]
 by_cases c:(10:Int) ^ f≤k+v
 ·rw [decide_eq_true c]
  walk_at "mo"
  rw [Mo.grd_ok (zd8_ f),Bool.or_true]
  rfl
 ·rw [decide_eq_false c]
  walk_at "mo"
  rw [e1,Mo.grd_ok (zd8_ f),Bool.or_false]
  rfl
theorem zmK_ {f:Nat}{k:Int}{o:Bool}:zbn_ (whl f k o)=.ok ((),whl f 0 false):=rfl
theorem zpM_ {f:Nat}(h:f≤12):PadOk (f:Int)=true:=by
 have:∀ n:Nat,n≤12→PadOk (n:Int)=true:=by decide
 exact this f h
theorem zkq_ {f:Nat}{k:Int}{o:Bool}(h1:1≤f) (h2:f≤12) (h0:0≤k) (hk:k<10 ^ f):zay_ (whl f k o)=.ok (digs f k.toNat):=by
 unfold zay_ zb9_
 walk_at "mo"
 have e1:(whl f k o).fst=(f:Int):=rfl
 have e2:(whl f k o).snd.snd.fst=k:=rfl
 rw [e1,e2,Mo.grd_ok (zmu_ h0 hk (by omega)),Mo.okB,Mo.grd_ok (zpM_ h2),znl_ h1 h0 hk]
 rfl
theorem zpq_:∀ d:Nat,d<10→atI [48,49,50,51,52,53,54,55,56,57] (d:Int)=some (48+d):=by decide
theorem zk7_ {f:Nat}{k:Int}(h2:f≤12) (h0:0≤k) (hk:k<10 ^ f):zco_ k f=.ok (digs f k.toNat):=by
 have ek:(k % 10 ^ f)=k:=Int.emod_eq_of_lt h0 hk
 unfold zco_ zdr_
 walk_at "mo"
 rw [Mo.grd_ok ⟨by omega,by omega⟩]
 walk_at "mo"
 refine zbA_ (G:=fun m=>fnO (thenO m _)=_) (fun d s=>s=(digs d.length (k % 10 ^ f).toNat,k / 10 ^ d.length)) (by simp [digs]) (fun d x s hx hs=>?_) (fun s hs=>?_)
 ·obtain ⟨r,hr⟩:=hx
  have hd:d.length<f:=by
   have:=congrArg List.length hr
   rw [zcO_,List.length_append,List.length_cons] at this
   omega
  subst hs
  have a0:0≤k / 10 ^ d.length % 10:=Int.emod_nonneg _ (by decide)
  have a1:k / 10 ^ d.length % 10<10:=Int.emod_lt_of_pos _ (by decide)
  have ea:=zpq_ (k / 10 ^ d.length % 10).toNat (by omega)
  rw [Int.toNat_of_nonneg a0] at ea
  refine ⟨_,by
   simp only
   rw [ea,Mo.lim_ok (by decide)]
   walk_at "mo"
   rw [Mo.lim_ok (by simp [zcn_]; omega)]
   walk_at "mo"
   rfl,?_⟩
  rw [List.length_append,List.length_singleton,zgP_,zkV_ k hd,Int.pow_succ,← Int.ediv_ediv_of_nonneg (Int.le_of_lt (zd8_ _))]
  rfl
 ·subst hs
  rw [zcO_]
  show fnO _=_
  walk_at "mo"
  rw [ek]
  rfl
theorem zjE_ (n:Int) {m:Int}(h1:1≤m) (h2:m≤9):∃ f,zbl_ n m=.ok f∧isF f∧f.2-f.1≤8:=by
 unfold zbl_ zdo_
 walk_at "mo"
 rw [Mo.grd_ok (by omega)]
 walk_at "mo"
 have a0:0≤n / 180 % m:=Int.emod_nonneg _ (by omega)
 have a1:n / 180 % m<m:=Int.emod_lt_of_pos _ (by omega)
 have b0:0≤n / 5 % 36:=Int.emod_nonneg _ (by decide)
 have b1:n / 5 % 36<36:=Int.emod_lt_of_pos _ (by decide)
 refine ⟨_,rfl,⟨?_,?_,?_⟩,?_⟩<;>simp only<;>omega
theorem zmT_ (n:Int):∃ ks,zdt_ n=.ok ks∧ks.length=36:=by
 obtain ⟨xs,e,hl⟩:=zeW_ n (many:=36) (by decide) (by decide)
 unfold zdt_ zds_
 walk_at "mo"
 rw [e]
 walk_at "mo"
 rw [zbB_ (f:=fun x_4=>cond1 (Mo.ok true) (Mo.ok (x_4 / 11))) (g:=fun x=>x / 11) (fun x _=>rfl) (by simp [hl])]
 exact ⟨_,rfl,by simp [hl]⟩
theorem zph_ (k:Int):∃ y,atI SG (k % 37)=some y:=by
 obtain ⟨y,e,_⟩:∃ y,atI SG (k % 37)=some y∧y∈SG:=zoO_ (xs:=SG) k (by decide)
 exact ⟨y,e⟩
theorem sg_in {k:Int}(h0:0≤k) (h1:k<37):∃ y,atI SG k=some y:=by
 obtain ⟨y,e,_⟩:=zcB_ (xs:=SG) h0 h1
 exact ⟨y,e⟩
theorem zol_ (n k:Int) {ks:List Int}(hk:ks.length=36):∃ c,zdV_ n k ks=.ok c∧c.length=40:=by
 obtain ⟨xs,e,hl⟩:=zeW_ n (many:=36) (by decide) (by decide)
 unfold zdV_ zdS_
 walk_at "mo"
 rw [e]
 walk_at "mo"
 rw [Mo.grd_ok (by decide)]
 walk_at "mo"
 have hxs:xs.length=36:=hl
 refine zbA_ (G:=fun m=>∃ c:List Nat,fnO (thenO m _)=.ok c∧c.length=40) (fun d (s:List Nat)=>s.length=d.length) rfl (fun d x s hx hs=>?_) (fun s hs=>?_)
 ·obtain ⟨r,hr⟩:=hx
  obtain ⟨ex,hd⟩:=zfz_ hr
  have hd':d.length<36:=hd
  obtain ⟨a,ea,_⟩:=zcB_ (xs:=xs) (k:=x) (by omega) (by omega)
  obtain ⟨b,eb,_⟩:=zcB_ (xs:=ks) (k:=x) (by omega) (by omega)
  rw [ea,eb]
  walk_at "mo"
  have q0:0≤b % 5:=Int.emod_nonneg _ (by decide)
  have q1:b % 5<5:=Int.emod_lt_of_pos _ (by decide)
  have key:∃ v,atI [1+b / 5 % 10,1+a / 7 % 10,(b / 5+a / 7 % 2) % 37,a / 7 % 37,1+(b / 5+a / 7 % 2) % 10] (b % 5)=some v∧0≤v∧v<37:=by
   obtain ⟨v,ev,hm⟩:=zcB_ (xs:=[1+b / 5 % 10,1+a / 7 % 10,(b / 5+a / 7 % 2) % 37,a / 7 % 37,1+(b / 5+a / 7 % 2) % 10]) (k:=b % 5) q0 (by simpa using q1)
   refine ⟨v,ev,?_⟩
   simp only [List.mem_cons,List.not_mem_nil,or_false] at hm
   rcases hm with rfl | rfl | rfl | rfl | rfl<;>omega
  obtain ⟨v,ev,v0,v1⟩:=key
  obtain ⟨y,ey⟩:=sg_in v0 v1
  rw [ev]
  walk_at "mo"
  rw [ey,Mo.lim_ok (by decide)]
  walk_at "mo"
  rw [Mo.lim_ok (by simp; omega)]
  exact ⟨_,rfl,by simp [hs]⟩
 ·obtain ⟨y1,e1⟩:=zph_ n
  obtain ⟨y2,e2⟩:=zph_ k
  obtain ⟨a,ea,_⟩:=zcB_ (xs:=xs) (k:=0) (by decide) (by omega)
  obtain ⟨y3,e3⟩:=zph_ a
  obtain ⟨y4,e4⟩:=zph_ (n / 37)
  have hs':s.length=36:=by rw [hs,zcO_]; rfl
  walk_at "mo"
  rw [e1,e2,ea,e4]
  walk_at "mo"
  rw [e3]
  simp only [show ∀ r:Mo (List Nat),Mo.lim SG.length r=r from fun r=>Mo.lim_ok (by decide)]
  walk_at "mo"
  rw [Mo.lim_ok (show [y1].length+[y2].length≤100000 by simp)]
  walk_at "mo"
  rw [Mo.lim_ok (show ([y1]++[y2]).length+[y3].length≤100000 by simp)]
  walk_at "mo"
  rw [Mo.lim_ok (show s.length+([y1]++[y2]++[y3]).length≤100000 by simp; omega)]
  walk_at "mo"
  rw [Mo.lim_ok (show (s++([y1]++[y2]++[y3])).length+[y4].length≤100000 by simp; omega)]
  exact ⟨_,rfl,by simp; omega⟩
theorem zm0_ (n:Int):∃ B,zdq_ n=.ok B∧(∀ w∈B,okW w)∧B.length≤36:=by
 obtain ⟨xs,e,hl⟩:=zeW_ n (many:=36) (by decide) (by decide)
 have hxs:xs.length=36:=hl
 unfold zdq_ zdp_
 walk_at "mo"
 rw [e]
 walk_at "mo"
 rw [Mo.grd_ok (by decide)]
 walk_at "mo"
 refine zbA_ (G:=fun m=>∃ B:List Wr,fnO (thenO m _)=.ok B∧(∀ w∈B,okW w)∧B.length≤36) (fun d (s:List Wr)=>(∀ w∈s,okW w)∧s.length≤d.length) ?h0 (fun d x s hx hs=>?_) (fun s hs=>?_)
 case h0=>exact ⟨fun w hw=>(by cases hw),Nat.le_refl _⟩
 ·obtain ⟨r,hr⟩:=hx
  obtain ⟨ex,hd⟩:=zfz_ hr
  have hd':d.length<36:=hd
  obtain ⟨a,ea,_⟩:=zcB_ (xs:=xs) (k:=x-1) (by omega) (by omega)
  rw [ea]
  walk_at "mo"
  by_cases c:a / 3 % 4<n % 5
  ·rw [decide_eq_true c,if_pos rfl,Mo.lim_ok (by omega)]
   have q0:0≤a / 12 % 40:=Int.emod_nonneg _ (by decide)
   have q1:a / 12 % 40<40:=Int.emod_lt_of_pos _ (by decide)
   refine ⟨_,rfl,fun w hw=>?_,by simp; omega⟩
   rcases List.mem_append.mp hw with hw | hw
   ·exact hs.1 w hw
   ·obtain rfl:=List.mem_singleton.mp hw
    refine ⟨?_,?_,?_,?_⟩<;>simp only<;>omega
  ·rw [decide_eq_false c,if_neg (by decide)]
   exact ⟨_,rfl,hs.1,by simp; omega⟩
 ·rw [zcO_] at hs
  exact ⟨s,rfl,hs.1,hs.2⟩
theorem zoj_ {c:List Nat}(hc:c.length=40) {B:List Wr}(hB:∀ w∈B,okW w) (hl:B.length≤36):zbD_ c B=.ok (c.drop 36++32::laid c B):=by
 unfold zbD_ zbC_
 walk_at "mo"
 refine zbA_ (G:=fun m=>fnO (thenO m _)=_) (fun d (s:List (Int×List Nat))=>s.length≤d.length∧∀ col,(getA s col).getD [32]=[sgn c d col]) ⟨Nat.le_refl _,fun _=>rfl⟩ (fun d w s hx hs=>?_) (fun s hs=>?_)
 ·obtain ⟨r,hr⟩:=hx
  obtain ⟨a1,a2,a3,a4⟩:=hB w (by rw [hr]; simp)
  have hd:d.length≤36:=by have:=congrArg List.length hr; simp at this; omega
  rw [Mo.lim_ok (by omega),zlP_ hc a1 a2]
  walk_at "mo"
  rw [Mo.lim_ok (by omega)]
  refine ⟨_,rfl,Nat.le_trans (zm7_ _ _ _) (by simp; omega),fun col=>?_⟩
  rw [zmD_,zkM_]
  split
  ·rfl
  ·exact hs.2 col
 ·walk_at "mo"
  have hcl:(c.drop 36).length=4:=by simp [hc]
  rw [zia_ (by decide),Mo.lim_ok (by omega),Mo.grd_ok (by decide)]
  walk_at "mo"
  rw [Mo.lim_ok (by simp; omega)]
  walk_at "mo"
  refine zbA_ (G:=fun m=>fnO (thenO m _)=_) (fun d (t:List Nat)=>t=c.drop 36++[32]++(List.range d.length).map fun i:Nat=>sgn c B (i+1)) (by simp) (fun d x t hx ht=>?_) (fun t ht=>?_)
  ·obtain ⟨r,hr⟩:=hx
   obtain ⟨ex,hd⟩:=zfz_ hr
   have hd':d.length<36:=hd
   rw [hs.2 x,Mo.lim_ok (by subst ht; simp; omega)]
   refine ⟨_,rfl,?_⟩
   subst ht
   rw [List.length_append,List.length_singleton,List.range_succ,List.map_append,List.append_assoc,ex,Int.add_comm 1]
   rfl
  ·subst ht
   rw [zcO_]
   show Mo.ok _=_
   rw [List.append_assoc]
   rfl
theorem zm4_ (d:Nat):max 0 (findS [48,49,50,51,52,53,54,55,56,57] [d])=(fig d:Int)-48:=by
 by_cases h:48≤d∧d≤57
 ·rw [zgJ_ h,show fig d=d from if_pos h]; omega
 ·rw [zh0_ h,show fig d=48 from if_neg h]; rfl
theorem zjx_ (c:List Nat) (f:Int×Int) (h:c.length≤1000):zb1_ c f=.ok (num c f):=by
 unfold zb1_ zcz_
 walk_at "mo"
 rw [Mo.lim_ok (by omega)]
 walk_at "mo"
 rw [zd2_ (fun (s:Int) (x:List Nat)=>s*10+((fig (x.headD 0):Nat)-48))]
 ·rw [List.foldl_map]
  unfold num numL
  rw [List.foldl_map]
  rfl
 ·intro s x hx
  obtain ⟨d,hd,rfl⟩:=List.mem_map.mp hx
  rw [zm4_,Int.mul_comm s 10]
  rfl
theorem zjY_ (c:List (List Nat)):zcq_ c c=.ok true:=by
 unfold zcq_ zdn_
 walk_at "mo"
 rw [show eqL (fun a b:List Nat=>decide (a=b)) c c=true from zen_ (fun a=>by simp) c,zjb_ (fun x hx=>rfl)]
 rfl
noncomputable abbrev Ctr:=(List (Int×Int))×((List (Int×Int))×((List (Int×Int))×((List (List Whl))×((Option (List Nat))×((List (Int×Bool))×Unit)))))
noncomputable def ctr (S B:List (Int×Int)) (ks:List Int) (bf:Option (List Nat)):Ctr:=([],S,B,[ks.map fun k=>whl 12 k false],bf,[],())
theorem zgN_ {α:Type}{xs:List α}{d r:List (Int×α)}{q:Int×α}(h:enumL xs=d++q::r):q.1=d.length∧xs[d.length]?=some q.2∧d.length<xs.length:=by
 have h1:(enumL xs)[d.length]?=some q:=by rw [h]; simp
 rw [ziv_] at h1
 obtain ⟨x,h2,h3⟩:=Option.map_eq_some_iff.mp h1
 subst h3
 exact ⟨rfl,h2,(List.getElem?_eq_some_iff.mp h2).1⟩
noncomputable def mid (ks vs:List Int) (n:Nat):List Int:=(List.range ks.length).map fun i:Nat=>ks.getD i 0+if i<n then vs.getD i 0 else 0
theorem zg2_ (ks vs:List Int) (n:Nat):(mid ks vs n).length=ks.length:=by unfold mid; simp
theorem mid_0 (ks vs:List Int):mid ks vs 0=ks:=by
 apply List.ext_getElem?
 intro i
 unfold mid
 rw [List.getElem?_map]
 by_cases h:i<ks.length
 ·rw [List.getElem?_range h]
  simp [List.getD_eq_getElem?_getD,List.getElem?_eq_getElem h]
 ·rw [List.getElem?_eq_none (by simp; omega),List.getElem?_eq_none (by omega)]; rfl
theorem zlj_ {ks vs:List Int}{n i:Nat}(h:i<ks.length):(mid ks vs n)[i]?=some (ks.getD i 0+if i<n then vs.getD i 0 else 0):=by
 unfold mid; rw [List.getElem?_map,List.getElem?_range h]; rfl
theorem znX_ {ks vs:List Int}{n:Nat}(h:n<ks.length) (f:Int→Whl):((mid ks vs n).map f).set n (f (ks.getD n 0+vs.getD n 0))=(mid ks vs (n+1)).map f:=by
 apply List.ext_getElem?
 intro i
 rw [List.getElem?_set,List.getElem?_map,List.getElem?_map]
 by_cases hi:i<ks.length
 ·rw [zlj_ hi,zlj_ hi]
  by_cases e:n=i
  ·subst e
   rw [if_pos rfl,if_pos (by rw [List.length_map,zg2_]; exact h),if_pos (by omega)]; rfl
  ·rw [if_neg e]
   by_cases q:i<n
   ·rw [if_pos q,if_pos (by omega)]
   ·rw [if_neg q,if_neg (by omega)]
 ·have z:∀ m,(mid ks vs m)[i]?=none:=fun m=>List.getElem?_eq_none (by rw [zg2_]; omega)
  rw [z,z,if_neg (by omega)]
theorem zms_ {S B:List (Int×Int)}{ks vs:List Int}{bf:Option (List Nat)}(hv:vs.length=ks.length) (hk:ks.length≤100) (hb:∀ i,i<ks.length→0≤ks.getD i 0+vs.getD i 0∧ks.getD i 0+vs.getD i 0<10 ^ 12) :
  z9_ (ctr S B ks bf) 0 vs=.ok ((),ctr S B (mid ks vs ks.length) bf):=by
 unfold z9_ zat_
 walk_at "mo"
 refine zbA_ (G:=fun m=>fnMU (thenO m _)=_) (fun d (s:Ctr)=>s=ctr S B (mid ks vs d.length) bf) (by rw [List.length_nil,mid_0]) (fun d x s hx hs=>?_) (fun s hs=>?_)
 ·obtain ⟨r,hr⟩:=hx
  obtain ⟨x1,x2,hd⟩:=zgN_ hr
  rw [hv] at hd
  subst hs
  have ev:vs.getD d.length 0=x.2:=by rw [List.getD_eq_getElem?_getD,x2]; rfl
  have hb':=hb d.length hd
  rw [ev] at hb'
  unfold ctr
  walk_at "mo"
  rw [show ixN [(mid ks vs d.length).map fun k=>whl 12 k false].length 0=some 0 from rfl]
  walk_at "mo"
  rw [show [(mid ks vs d.length).map fun k=>whl 12 k false][0]?=some ((mid ks vs d.length).map fun k=>whl 12 k false) from rfl]
  walk_at "mo"
  rw [x1,zmO_ (by omega) (by rw [List.length_map,zg2_]; omega)]
  walk_at "mo"
  rw [show ((d.length:Int)).toNat=d.length from rfl,List.getElem?_map,zlj_ hd,if_neg (Nat.lt_irrefl _),Int.add_zero]
  walk_at "mo"
  rw [zo4_,Int.emod_eq_of_lt hb'.1 hb'.2,decide_eq_false (by omega)]
  walk_at "mo"
  rw [show zbY_ (whl 12 (ks.getD d.length 0+x.snd) (false || false))=.ok false from rfl]
  walk_at "mo"
  refine ⟨_,rfl,?_⟩
  have:=znX_ (vs:=vs) hd (fun k=>whl 12 k false)
  rw [ev] at this
  rw [List.length_append,List.length_singleton,← this]
  rfl
 ·subst hs
  rw [zgb_,hv]
  rfl
theorem zjz_ (S B:List (Int×Int)) (ks:List Int) (bf:Option (List Nat)) (c:List Nat):zV_ (ctr S B ks bf) c=.ok 1:=by
 unfold zV_ zak_ ctr
 walk_at "mo"
 rfl
theorem zjo_ (S B:List (Int×Int)) (ks:List Int) (bf:Option (List Nat)):zB_ (ctr S B ks bf) 1=.ok ([],ctr S B ks bf):=by
 unfold zB_ z5_
 walk_at "mo"
 rw [show (ctr S B ks bf).fst=[] from rfl,Mo.grd_ok (by decide)]
 rfl
theorem zoZ_ {c:List Nat}(hc:c.length=40):zeQ_ c=.ok (c.drop 36):=by
 unfold zeQ_ zeV_
 walk_at "mo"
 rw [Mo.lim_ok (by omega),zia_ (by decide)]
 rfl
theorem zni_ (c:List Nat) (B:List Wr):(laid c B).length=36:=by unfold laid; simp
theorem zoP_ {S B:List (Int×Int)}{ks:List Int}{bf:Option (List Nat)}{c:List Nat}(hc:c.length=40) (hB:∀ w∈B,okW w) (hk:ks.length=S.length) (hS:S.length≤100) (hb:∀ i,i<ks.length→0≤ks.getD i 0+(S.map (num c)).getD i 0∧ks.getD i 0+(S.map (num c)).getD i 0<10 ^ 12) :
  zbQ_ (ctr S B ks bf) c=.ok ([c.drop 36++32::laid c B],ctr S B (mid ks (S.map (num c)) ks.length) (some c)):=by
 have hd:(c.drop 36).length=4:=by simp [hc]
 have hll:=zni_ c B
 have key:(if (ctr S B ks bf).snd.snd.snd.snd.fst.isSome=true then
     ((zV_ (ctr S B ks bf) c).noex.bind fun c_10 =>
        (zB_ (ctr S B ks bf) c_10).noex.bind fun q_11=>Mo.ok (q_11.fst,q_11.snd)).bind
      fun q_12=>(Mo.ok (Out.nx (q_12.fst,q_12.snd)):Mo (Out ((List (List Nat))×Ctr) Unit ((List (List Nat))×Ctr)))
    else Mo.ok (Out.nx ([],ctr S B ks bf)))=Mo.ok (Out.nx ([],ctr S B ks bf)):=by
  cases bf with
  | none=>rfl
  | some b=>rw [zjz_]; walk_at "mo"; rw [zjo_]; rfl
 unfold zbQ_ zbS_
 walk_at "mo"
 rw [key,zgh_,zoZ_ hc]
 walk_at "mo"
 rw [show (ctr S B ks bf).snd.snd.fst=B from rfl,show (ctr S B ks bf).snd.fst=S from rfl,show (ctr S B ks bf).fst=[] from rfl,zpp_ hc hB]
 walk_at "mo"
 rw [Mo.lim_ok (by omega),Mo.lim_ok (by omega)]
 walk_at "mo"
 rw [Mo.grd_ok (by omega),Mo.grd_ok (by decide),Mo.grd_ok (by omega)]
 walk_at "mo"
 rw [Mo.lim_ok (by simp),zbB_ (f:=fun x_32=>cond1 (Mo.ok true) (zck_ c x_32).noex) (g:=num c) (fun x hx=>by rw [zk6_ c x (by omega)]; rfl) (by simp; omega)]
 walk_at "mo"
 rw [show (([]:List (Int×Int)).length:Int)=0 from rfl,List.nil_append,zms_ (by simp [hk]) (by omega) hb,List.append_nil]
 rfl
theorem zkr_ (p q:List Nat) (ys:List (List Nat)):ys.foldl (fun a x=>a++[32]++x) (p++q)=p++ys.foldl (fun a x=>a++[32]++x) q:=by
 induction ys generalizing q with
 | nil=>rfl
 | cons y ys ih=>rw [List.foldl_cons,List.foldl_cons,← ih,List.append_assoc,List.append_assoc,List.append_assoc]
theorem znC_ (p:List Nat) (xs:List (List Nat)):joinL [32] (p::xs)=xs.foldl (fun a x=>a++[32]++x) p:=by
 induction xs generalizing p with
 | nil=>rfl
 | cons x xs ih =>
  show p++[32]++joinL [32] (x::xs)=_
  rw [ih,List.foldl_cons,List.append_assoc,List.append_assoc,zkr_,zkr_]
noncomputable def tline (ks:List Int):List Nat:=(ks.map fun k=>digs 12 k.toNat).foldl (fun a x=>a++[32]++x) [42]
theorem zli_ (ks:List Int) (hk:ks.length≤100):JoinOk ⟨#[32]⟩ (strsL ([42]::ks.map fun k=>digs 12 k.toNat))=true:=by
 unfold JoinOk
 have key:∀ (l:List Str) (acc:Nat),(∀ z∈l,z.length≤12)→l.foldl (fun x1 x2=>x1+x2.length+1) acc≤acc+l.length*13:=by
  intro l
  induction l with
  | nil=>intro acc _; simp
  | cons z r ih =>
   intro acc hz
   have h2:=ih (acc+z.length+1) fun y hy=>hz y (List.mem_cons_of_mem _ hy)
   have h3:=hz z List.mem_cons_self
   rw [List.foldl_cons,List.length_cons]
   omega
 have hz:∀ z∈strsL ([42]::ks.map fun k=>digs 12 k.toNat),z.length≤12:=fun z hz=>by
  unfold strsL at hz
  obtain ⟨p,hp,rfl⟩:=List.mem_map.mp hz
  rcases List.mem_cons.mp hp with rfl | hp
  ·show 1≤12; omega
  ·obtain ⟨k,_,rfl⟩:=List.mem_map.mp hp
   show (digs 12 k.toNat).length≤12
   rw [zcn_]; omega
 have q:=key _ 0 hz
 have ql:(strsL ([42]::ks.map fun k=>digs 12 k.toNat)).length=ks.length+1:=by unfold strsL; simp
 rw [List.foldl_toArray]
 unfold Builtin.Str.tooLong
 simp only [Bool.not_eq_true',decide_eq_false_iff_not]
 have hs:(100000:Nat)≤sizeLine:=by rw [sizeLine_eq]; omega
 have:(strsL ([42]::ks.map fun k=>digs 12 k.toNat)).foldl (fun x1 x2=>x1+x2.length+Str.length ⟨#[32]⟩) 0≤100000:=Nat.le_trans q (by omega)
 omega
theorem znq_ {S B:List (Int×Int)}{ks:List Int}{bf:Option (List Nat)}(hk:ks.length≤100) (hb:∀ k∈ks,0≤k∧k<10 ^ 12):zaG_ (ctr S B ks bf) 0=.ok (tline ks):=by
 unfold zaG_ zaH_ ctr
 walk_at "mo"
 rw [Mo.grd_ok (by decide)]
 walk_at "mo"
 rw [show cutG ([]:List (Int×Int)) none (some 0)=[] from rfl,show compM (fun x_16=>cond1 (Mo.ok true) (((Mo.opt bf).bind fun a_19=>Mo.ok (a_19,x_16)).bind fun c_21=>(zb8_ c_21.fst c_21.snd).noex)) [] []=.ok [] from rfl]
 walk_at "mo"
 rw [Mo.lim_ok (by decide)]
 rw [show atI [ks.map fun k=>whl 12 k false] 0=some (ks.map fun k=>whl 12 k false) from rfl]
 walk_at "mo"
 have e:compM (fun x_27=>cond1 (Mo.ok true) (zay_ x_27).noex) (ks.map fun k=>whl 12 k false) []=.ok (ks.map fun k=>digs 12 k.toNat):=by
  rw [zbB_ (f:=fun x_27=>cond1 (Mo.ok true) (zay_ x_27).noex) (g:=fun x=>match zay_ x with | .ok v=>v | _=>[]) (fun x hx=>by
   obtain ⟨k,hk',rfl⟩:=List.mem_map.mp hx
   rw [zkq_ (by decide) (by decide) (hb k hk').1 (hb k hk').2]; rfl) (by simp; omega)]
  rw [List.map_map,List.nil_append]
  refine congrArg Mo.ok (List.map_congr_left fun k hk'=>?_)
  show (match zay_ (whl 12 k false) with | .ok v=>v | _=>[])=_
  rw [zkq_ (by decide) (by decide) (hb k hk').1 (hb k hk').2]
 rw [e]
 walk_at "mo"
 rw [Mo.lim_ok (by simp; omega),show ([repL [42] (1+(([]:List (Int×Int)).length:Int)-0)]++([]:List (List Nat))++ks.map fun k=>digs 12 k.toNat)=[42]::ks.map fun k=>digs 12 k.toNat from rfl,Mo.grd_ok (zli_ ks hk),ziJ_,znC_]
 rfl
theorem zk1_ (ks:List Int):mapX (fun z_28=>(zbn_ z_28).noex.bind fun q_29=>Mo.ok q_29.snd) (ks.map fun k=>whl 12 k false)=.ok ((ks.map fun _=>(0:Int)).map fun k=>whl 12 k false):=by
 induction ks with
 | nil=>rfl
 | cons k ks ih =>
  rw [List.map_cons]
  show ((zbn_ (whl 12 k false)).noex.bind fun q_29=>Mo.ok q_29.snd).bind _=_
  rw [zmK_]
  show (mapX (fun z_28=>(zbn_ z_28).noex.bind fun q_29=>Mo.ok q_29.snd) (ks.map fun k=>whl 12 k false)).bind _=_
  rw [ih]
  rfl
theorem zjn_ {S B:List (Int×Int)}{ks:List Int}{bf:Option (List Nat)}(hk:ks.length≤100) (hb:∀ k∈ks,0≤k∧k<10 ^ 12):zab_ (ctr S B ks bf) 0=.ok (tline ks,ctr S B (ks.map fun _=>0) bf):=by
 unfold zab_ zau_
 walk_at "mo"
 rw [znq_ hk hb]
 unfold ctr
 walk_at "mo"
 rw [show ixN [ks.map fun k=>whl 12 k false].length 0=some 0 from rfl]
 walk_at "mo"
 rw [show [ks.map fun k=>whl 12 k false][0]?=some (ks.map fun k=>whl 12 k false) from rfl]
 walk_at "mo"
 rw [zk1_]
 rfl
theorem zkz_ {S B:List (Int×Int)}{ks:List Int}{bf:Option (List Nat)}(hk:ks.length≤100) (hb:∀ k∈ks,0≤k∧k<10 ^ 12):zB_ (ctr S B ks bf) 0=.ok ([tline ks],ctr S B (ks.map fun _=>0) bf):=by
 unfold zB_ z5_
 walk_at "mo"
 rw [show (ctr S B ks bf).fst=[] from rfl,Mo.grd_ok (by decide)]
 walk_at "mo"
 rw [show rngD (([]:List (Int×Int)).length:Int) ((([]:List (Int×Int)).length:Int) - -1).toNat=[0] from rfl]
 unfold forO
 rw [zjn_ hk hb]
 walk_at "mo"
 rw [Mo.lim_ok (by decide)]
 rfl
theorem zlH_ {S B:List (Int×Int)}{ks:List Int}{bf:Option (List Nat)}(hk:ks.length≤100) (hb:∀ k∈ks,0≤k∧k<10 ^ 12):zbw_ (ctr S B ks bf)=.ok ([tline ks],ctr S B (ks.map fun _=>0) bf):=by
 unfold zbw_ zbv_
 walk_at "mo"
 rw [zjn_ hk hb,zkz_ hk hb]
 cases bf<;>rfl
theorem zj7_ (S B:List (Int×Int)) (ks:List Int) (bf:Option (List Nat)):zbg_ (ctr S B ks bf)=.ok []:=by
 unfold zbg_ zbF_
 walk_at "mo"
 rw [show (ctr S B ks bf).snd.snd.snd.snd.snd.fst=[] from rfl,Mo.grd_ok (by decide),show srtL ltI (([]:List (Int×Bool)).map fun x=>x.fst)=[] from (zil_ ltI []).eq_nil]
 rfl
theorem zmI_ {S B:List (Int×Int)}(hS:S.length≤100):za1_ () [] S 12 B=.ok ((),ctr S B (S.map fun _=>0) none):=by
 unfold za1_ za8_
 walk_at "mo"
 rw [Mo.grd_ok (by decide),show rngI 0 ((([]:List (Int×Int)).length:Int)+1).toNat=[0] from rfl]
 walk_at "mo"
 have e:compM (fun x_18:Int×Int=>cond1 (Mo.ok true) ((z4_ () 12).noex.bind fun q_20=>Mo.ok q_20.snd)) S []=.ok (S.map fun _=>whl 12 0 false):=by
  have e12:z4_ () 12=.ok ((),whl 12 0 false):=znY_ (f:=12) (by decide)
  rw [zbB_ (f:=fun x_18:Int×Int=>cond1 (Mo.ok true) ((z4_ () 12).noex.bind fun q_20=>Mo.ok q_20.snd)) (g:=fun _=>whl 12 0 false) (fun x hx=>by rw [e12]; rfl) (by simp; omega)]
  rfl
 rw [zbB_ (f:=fun x_17:Int=>cond1 (Mo.ok true) (compM (fun x_18:Int×Int=>cond1 (Mo.ok true) ((z4_ () 12).noex.bind fun q_20=>Mo.ok q_20.snd)) S [])) (g:=fun _=>S.map fun _=>whl 12 0 false) (fun x hx=>by rw [e]; rfl) (by decide)]
 unfold ctr
 rw [List.map_map]
 rfl
theorem num9 {c:List Nat}{f:Int×Int}(hf:isF f) (h8:f.2-f.1≤8):0≤num c f∧num c f<10 ^ 9:=by
 have h1:=zkl_ ((prt c f).map fig) 0 (fun c hc=>by obtain ⟨b,_,rfl⟩:=List.mem_map.mp hc; exact zf2_ b) (by decide)
 refine ⟨h1.1,Int.lt_of_lt_of_le h1.2 ?_⟩
 have h2:((prt c f).map fig).length≤9:=by
  rw [List.length_map]
  obtain ⟨a,b,d⟩:=hf
  unfold prt cutG
  rw [List.length_take,zm8_ (by omega),zm8_ (by omega)]
  omega
 rw [show (0:Int)+1=1 from rfl,Int.one_mul]
 have h3:10 ^ ((prt c f).map fig).length≤10 ^ 9:=Nat.pow_le_pow_right (by decide) h2
 have e1:∀ n:Nat,(10:Int) ^ n=((10 ^ n:Nat):Int):=fun n=>by rw [Int.natCast_pow]; rfl
 rw [e1,e1]
 exact Int.ofNat_le.mpr h3
theorem znf_ (ns:List Int) (hl:ns.length≤63):zpf_ ns=.ok true:=by
 unfold zpf_ zpc_
 walk_at "mo"
 obtain ⟨c0,e0⟩:=ziw_ ns 0 (by omega)
 obtain ⟨c2,e2⟩:=ziw_ ns 2 (by omega)
 obtain ⟨c3,e3⟩:=ziw_ ns 3 (by omega)
 obtain ⟨c4,e4⟩:=ziw_ ns 4 (by omega)
 rw [e0,e2,e3,e4]
 walk_at "mo"
 obtain ⟨ks,ek,hks⟩:=zmT_ c0
 have m0:0≤c2 % 5:=Int.emod_nonneg _ (by decide)
 have m1:c2 % 5<5:=Int.emod_lt_of_pos _ (by decide)
 obtain ⟨xs,ex,hxs⟩:=zeW_ c2 (many:=c2 % 5) m0 (by omega)
 obtain ⟨B,eB,hB,hBl⟩:=zm0_ c4
 obtain ⟨most,em,hm1,hm2⟩:∃ most,atI [(3:Int),9] (c3 % 2)=some most∧1≤most∧most≤9:=by
  have q0:0≤c3 % 2:=Int.emod_nonneg _ (by decide)
  have q1:c3 % 2<2:=Int.emod_lt_of_pos _ (by decide)
  obtain ⟨v,ev,hm⟩:=zcB_ (xs:=[(3:Int),9]) q0 (by simpa using q1)
  refine ⟨v,ev,?_⟩
  simp only [List.mem_cons,List.not_mem_nil,or_false] at hm
  rcases hm with rfl | rfl<;>decide
 rw [ek,em,ex,eB]
 walk_at "mo"
 obtain ⟨S,eS,hS,hSl⟩:∃ S:List (Int×Int),compM (fun x_30=>cond1 (Mo.ok true) (zbl_ x_30 most).noex) xs []=.ok S∧(∀ f∈S,isF f∧f.2-f.1≤8)∧S.length=xs.length:=by
  refine ⟨xs.map fun x=>match zbl_ x most with | .ok v=>v | _=>(0,0),?_,fun f hf=>?_,by simp⟩
  ·rw [zbB_ (f:=fun x_30=>cond1 (Mo.ok true) (zbl_ x_30 most).noex) (g:=fun x=>match zbl_ x most with | .ok v=>v | _=>(0,0)) (fun x hx=>by
    obtain ⟨f,e,_⟩:=zjE_ x hm1 hm2
    rw [e]; rfl) (by simp; omega)]
   rfl
  ·obtain ⟨x,_,rfl⟩:=List.mem_map.mp hf
   obtain ⟨f,e,h⟩:=zjE_ x hm1 hm2
   rw [e]; exact h
 have hS4:S.length≤4:=by omega
 rw [eS]
 walk_at "mo"
 rw [Mo.lim_ok (by simp)]
 walk_at "mo"
 rw [show atI [S,B] 0=some S from rfl,show atI [S,B] 1=some B from rfl]
 walk_at "mo"
 rw [zmI_ (by omega)]
 walk_at "mo"
 rw [show eqL (eqL fun a b:Int×Int=>decide (a.fst=b.fst) && decide (a.snd=b.snd)) [S,B] [S,B]=true from zen_ (zen_ (fun a=>by simp)) _]
 walk_at "mo"
 rw [show ixN [S,B].length 0=some 0 from rfl]
 walk_at "mo"
 rw [show [S,B][0]?=some S from rfl]
 walk_at "mo"
 rw [show ixN ([S,B].set 0 []).length 1=some 1 from rfl]
 walk_at "mo"
 rw [show ([S,B].set 0 [])[1]?=some B from rfl]
 walk_at "mo"
 have hz:repL [(0:Int)] (c2 % 5)=S.map fun _=>0:=by
  have e:∀ n:Nat,n≤4→repL [(0:Int)] (n:Int)=List.replicate n 0:=by decide
  have:=e (c2 % 5).toNat (by omega)
  rw [Int.toNat_of_nonneg m0] at this
  rw [this,List.map_const',hSl,hxs]
 have hr:CRep [(0:Int)].length (c2 % 5):=by
  have e:∀ n:Nat,n≤4→CRep [(0:Int)].length (n:Int):=by decide
  have:=e (c2 % 5).toNat (by omega)
  rwa [Int.toNat_of_nonneg m0] at this
 rw [Mo.grd_ok hr,hz]
 walk_at "mo"
 have hns:(cutG ns (some 5) (some 65)).length≤63:=Nat.le_trans (zhq_ _ _ _) hl
 refine zbA_ (G:=fun m=>fnO (thenO m _)=_) (fun d (s:List (List (List Nat))×Ctr×List (List (List Nat))×List Int)=>s.1=s.2.2.1∧s.1.length=d.length∧(∃ bf,s.2.1=ctr S B s.2.2.2 bf)∧s.2.2.2.length=S.length∧∀ t∈s.2.2.2,0≤t∧t≤d.length*1000000000) ?h0 (fun d x s hx hs=>?_) (fun s hs=>?_)
 case h0 =>
  refine ⟨rfl,rfl,⟨none,rfl⟩,by simp,fun t ht=>?_⟩
  obtain ⟨_,_,rfl⟩:=List.mem_map.mp ht
  exact ⟨Int.le_refl _,by simp⟩
 ·obtain ⟨told,ct,due,T⟩:=s
  obtain ⟨h1,h2,⟨bf,h3⟩,h4,h5⟩:=hs
  simp only at h1 h2 h3 h4 h5
  subst h1 h3
  obtain ⟨r,hr'⟩:=hx
  obtain ⟨x1,x2,hd⟩:=zgN_ hr'
  obtain ⟨c,ec,hc⟩:=zol_ x.2 x.1 hks
  have nb:∀ f∈S,0≤num c f∧num c f<1000000000:=fun f hf=>num9 (hS f hf).1 (hS f hf).2
  have gT:∀ i,i<T.length→0≤T.getD i 0∧T.getD i 0≤d.length*1000000000:=fun i hi=>by
   rw [List.getD_eq_getElem?_getD,List.getElem?_eq_getElem hi]
   exact h5 _ (List.getElem_mem hi)
  have gS:∀ i,i<T.length→0≤(S.map (num c)).getD i 0∧(S.map (num c)).getD i 0<1000000000:=fun i hi=>by
   rw [List.getD_eq_getElem?_getD,List.getElem?_map,List.getElem?_eq_getElem (by omega)]
   exact nb _ (List.getElem_mem _)
  have ez:(T.zip S).map (fun x=>x.1+num c x.2)=mid T (S.map (num c)) T.length:=by
   apply List.ext_getElem?
   intro i
   by_cases hi:i<T.length
   ·have ez:(T.zip S)[i]?=some (T[i],S[i]'(by omega)):=List.getElem?_zip_eq_some.mpr ⟨List.getElem?_eq_getElem hi,List.getElem?_eq_getElem (by omega)⟩
    rw [zlj_ hi,if_pos hi,List.getElem?_map,ez]
    rw [List.getD_eq_getElem?_getD,List.getElem?_eq_getElem hi,List.getD_eq_getElem?_getD,List.getElem?_map,List.getElem?_eq_getElem (by omega)]
    rfl
   ·rw [List.getElem?_eq_none (by simp; omega),List.getElem?_eq_none (by rw [zg2_]; omega)]
  rw [ec]
  walk_at "mo"
  rw [zoP_ hc hB h4 (by omega) (fun i hi=>by have:=gT i hi; have:=gS i hi; omega)]
  walk_at "mo"
  rw [Mo.lim_ok (by omega),zoj_ hc hB hBl]
  walk_at "mo"
  have ea:atI (told++[[c.drop 36++32::laid c B]]) x.1=some [c.drop 36++32::laid c B]:=by
   rw [x1,← h2,zmr_ (by omega)]
   exact List.getElem?_concat_length
  rw [Mo.lim_ok (by omega),ea]
  walk_at "mo"
  rw [zjY_]
  walk_at "mo"
  rw [zbB_ (f:=fun x_125:Int×(Int×Int)=>cond1 (Mo.ok true) ((zb1_ c x_125.snd).noex.bind fun b_130=>Mo.ok (x_125.fst+b_130))) (g:=fun x=>x.1+num c x.2) (fun x hx=>by rw [zjx_ c x.2 (by omega)]; rfl) (by simp; omega),List.nil_append,ez]
  refine ⟨_,rfl,rfl,by simp [h2],⟨_,rfl⟩,by rw [zg2_]; exact h4,fun t ht=>?_⟩
  unfold mid at ht
  obtain ⟨i,hi,rfl⟩:=List.mem_map.mp ht
  have hi':=List.mem_range.mp hi
  have:=gT i hi'
  have:=gS i hi'
  rw [if_pos hi',List.length_append,List.length_singleton]
  constructor
  ·omega
  ·have:((d.length+1:Nat):Int)=d.length+1:=rfl
   rw [this]; omega
 ·obtain ⟨told,ct,due,T⟩:=s
  obtain ⟨h1,h2,⟨bf,h3⟩,h4,h5⟩:=hs
  simp only at h1 h2 h3 h4 h5
  subst h1 h3
  rw [zgb_] at h5
  have hb:∀ k∈T,0≤k∧k<10 ^ 12:=fun k hk=>by
   have:=h5 k hk
   have:((cutG ns (some 5) (some 65)).length:Int)≤63:=by omega
   omega
  walk_at "mo"
  rw [zj7_]
  walk_at "mo"
  rw [show (!eqL (fun a b:Int=>decide (a=b)) [] [])=false from rfl,if_neg (by decide),zgh_]
  refine zbA_ (G:=fun m=>fnO (thenO m _)=_) (fun d (s:List Nat)=>s=tline d∧s.length=1+13*d.length) ⟨rfl,rfl⟩ (fun d t s hx hs=>?_) (fun s hs=>?_)
  ·obtain ⟨r,hr'⟩:=hx
   obtain ⟨q1,q2⟩:=hb t (by rw [hr']; simp)
   have hd:d.length≤4:=by have:=congrArg List.length hr'; simp at this; omega
   rw [Mo.lim_ok (by simp; omega),show zco_ t 12=.ok (digs 12 t.toNat) from zk7_ (f:=12) (by decide) q1 q2]
   walk_at "mo"
   rw [Mo.lim_ok (by simp [zcn_]; omega)]
   refine ⟨_,rfl,?_,?_⟩
   ·rw [hs.1]
    unfold tline
    rw [List.map_append,List.foldl_append]
    rfl
   ·simp [zcn_]; omega
  ·rw [zgh_,zlH_ (by omega) hb,hs.1]
   walk_at "mo"
   rw [zjY_]
   walk_at "mo"
   rw [zj7_]
   walk_at "mo"
   rw [show eqL (eqL fun a b:List Nat=>decide (a=b)) told told=true from zen_ (zen_ (fun a=>by simp)) _]
   rfl
end K33
namespace K33
open PySem PySem.Spec PyProof.Rows L2
theorem zp9_ {K:PySem.W.Frag}:RD_law K:=zk2_ (fun ns hl hb=>znf_ ns hl)
theorem all_mk {l:PySem.W.OpenLaw}{w:World}{K:PySem.W.Frag}{h:Heap}{mg:Str→Option Value}{fa:Addr}(X:K.In h) (G:h.Ns mainGlobals mg) (hfa:mg "law" = some (.ref fa))
  {f0:Addr}{od0 an0:Option Addr}{sl0:Array (Option Value)}{oc0 kV0 dc0 pm0 cd0 ct0:Value}
  {f1:Addr}{od1 an1:Option Addr}{sl1:Array (Option Value)}{oc1 kV1 dc1 pm1 cd1 ct1:Value}
  {f2:Addr}{od2 an2:Option Addr}{sl2:Array (Option Value)}{oc2 kV2 dc2 pm2 cd2 ct2:Value}
  {f3:Addr}{od3 an3:Option Addr}{sl3:Array (Option Value)}{oc3 kV3 dc3 pm3 cd3 ct3:Value}
  {f4:Addr}{od4 an4:Option Addr}{sl4:Array (Option Value)}{oc4 kV4 dc4 pm4 cd4 ct4:Value}
  {f5:Addr}{od5 an5:Option Addr}{sl5:Array (Option Value)}{oc5 kV5 dc5 pm5 cd5 ct5:Value}
  {f6:Addr}{od6 an6:Option Addr}{sl6:Array (Option Value)}{oc6 kV6 dc6 pm6 cd6 ct6:Value}
  {f7:Addr}{od7 an7:Option Addr}{sl7:Array (Option Value)}{oc7 kV7 dc7 pm7 cd7 ct7:Value}
  {f8:Addr}{od8 an8:Option Addr}{sl8:Array (Option Value)}{oc8 kV8 dc8 pm8 cd8 ct8:Value}
  {f9:Addr}{od9 an9:Option Addr}{sl9:Array (Option Value)}{oc9 kV9 dc9 pm9 cd9 ct9:Value}
  {f10:Addr}{od10 an10:Option Addr}{sl10:Array (Option Value)}{oc10 kV10 dc10 pm10 cd10 ct10:Value}
  {f11:Addr}{od11 an11:Option Addr}{sl11:Array (Option Value)}{oc11 kV11 dc11 pm11 cd11 ct11:Value}
  {f12:Addr}{od12 an12:Option Addr}{sl12:Array (Option Value)}{oc12 kV12 dc12 pm12 cd12 ct12:Value}
  {f13:Addr}{od13 an13:Option Addr}{sl13:Array (Option Value)}{oc13 kV13 dc13 pm13 cd13 ct13:Value}
  {f14:Addr}{od14 an14:Option Addr}{sl14:Array (Option Value)}{oc14 kV14 dc14 pm14 cd14 ct14:Value}
  {f15:Addr}{od15 an15:Option Addr}{sl15:Array (Option Value)}{oc15 kV15 dc15 pm15 cd15 ct15:Value}
  {f16:Addr}{od16 an16:Option Addr}{sl16:Array (Option Value)}{oc16 kV16 dc16 pm16 cd16 ct16:Value}
  {f17:Addr}{od17 an17:Option Addr}{sl17:Array (Option Value)}{oc17 kV17 dc17 pm17 cd17 ct17:Value}
  {f18:Addr}{od18 an18:Option Addr}{sl18:Array (Option Value)}{oc18 kV18 dc18 pm18 cd18 ct18:Value}
  {f19:Addr}{od19 an19:Option Addr}{sl19:Array (Option Value)}{oc19 kV19 dc19 pm19 cd19 ct19:Value}
  {f20:Addr}{od20 an20:Option Addr}{sl20:Array (Option Value)}{oc20 kV20 dc20 pm20 cd20 ct20:Value}
  {f21:Addr}{od21 an21:Option Addr}{sl21:Array (Option Value)}{oc21 kV21 dc21 pm21 cd21 ct21:Value}
  {f22:Addr}{od22 an22:Option Addr}{sl22:Array (Option Value)}{oc22 kV22 dc22 pm22 cd22 ct22:Value}
  {f23:Addr}{od23 an23:Option Addr}{sl23:Array (Option Value)}{oc23 kV23 dc23 pm23 cd23 ct23:Value}
  {f24:Addr}{od24 an24:Option Addr}{sl24:Array (Option Value)}{oc24 kV24 dc24 pm24 cd24 ct24:Value}
  {f25:Addr}{od25 an25:Option Addr}{sl25:Array (Option Value)}{oc25 kV25 dc25 pm25 cd25 ct25:Value}
  {f26:Addr}{od26 an26:Option Addr}{sl26:Array (Option Value)}{oc26 kV26 dc26 pm26 cd26 ct26:Value}
  {f27:Addr}{od27 an27:Option Addr}{sl27:Array (Option Value)}{oc27 kV27 dc27 pm27 cd27 ct27:Value}
  {f28:Addr}{od28 an28:Option Addr}{sl28:Array (Option Value)}{oc28 kV28 dc28 pm28 cd28 ct28:Value}
  {f29:Addr}{od29 an29:Option Addr}{sl29:Array (Option Value)}{oc29 kV29 dc29 pm29 cd29 ct29:Value}
  {f30:Addr}{od30 an30:Option Addr}{sl30:Array (Option Value)}{oc30 kV30 dc30 pm30 cd30 ct30:Value}
  {f31:Addr}{od31 an31:Option Addr}{sl31:Array (Option Value)}{oc31 kV31 dc31 pm31 cd31 ct31:Value}
  {f32:Addr}{od32 an32:Option Addr}{sl32:Array (Option Value)}{oc32 kV32 dc32 pm32 cd32 ct32:Value}
  {cw0:Addr}(w0:PySem.W.nsIn K mainGlobals "Wheel" = some (some (.ref cw0))) (pg0:PySem.W.plainGet K cw0 Str.empty=true) (hd0:PySem.W.hasDictIn K cw0=true) (po0:PySem.W.plainOver K cw0=true) (sa0:PySem.W.findIn K (.ref cw0) "__setattr__" = some (some (.builtin "object.__setattr__"))) (mk0:PySem.W.makesIn K cw0=true) (kc0:PySem.W.keepIn K (.ref cw0)=true)
  {cw1:Addr}(w1:PySem.W.nsIn K mainGlobals "Counter" = some (some (.ref cw1))) (pg1:PySem.W.plainGet K cw1 Str.empty=true) (hd1:PySem.W.hasDictIn K cw1=true) (po1:PySem.W.plainOver K cw1=true) (sa1:PySem.W.findIn K (.ref cw1) "__setattr__" = some (some (.builtin "object.__setattr__"))) (mk1:PySem.W.makesIn K cw1=true) (kc1:PySem.W.keepIn K (.ref cw1)=true)
  (na0:PySem.W.findIn K (.ref cw0) "figures" = some none)
  (na1:PySem.W.findIn K (.ref cw0) "power" = some none)
  (na2:PySem.W.findIn K (.ref cw0) "kept" = some none)
  (na3:PySem.W.findIn K (.ref cw0) "over" = some none)
  (na4:PySem.W.findIn K (.ref cw1) "breaks" = some none)
  (na5:PySem.W.findIn K (.ref cw1) "sums" = some none)
  (na6:PySem.W.findIn K (.ref cw1) "board" = some none)
  (na7:PySem.W.findIn K (.ref cw1) "levels" = some none)
  (na8:PySem.W.findIn K (.ref cw1) "before" = some none)
  (na9:PySem.W.findIn K (.ref cw1) "run_over" = some none)
  (a0:PySem.W.nsIn K mainGlobals "ten_to" = some (some (.ref f0))) (l0:K.lookup f0=some ⟨oc0,od0,.func (PySem.W.fnOf "ten_to" "ten_to" (defArgs zcG_) (defBody zcG_) (defScope zcG_) .none kV0 dc0 pm0 an0 cd0 ct0),sl0⟩) (c0:PySem.W.codeIn K cd0 "ten_to" = true) (k0:PySem.W.keepIn K (.ref f0)=true)
  (a1:PySem.W.findIn K (.ref cw0) "__init__" = some (some (.ref f1))) (i1:PySem.W.isFn K (.ref f1)=true) (l1:K.lookup f1=some ⟨oc1,od1,.func (PySem.W.fnOf "__init__" "Wheel.__init__" (defArgs zN_) (defBody zN_) (defScope zN_) .none kV1 dc1 pm1 an1 cd1 ct1),sl1⟩) (c1:PySem.W.codeIn K cd1 "Wheel.__init__" = true) (k1:PySem.W.keepIn K (.ref f1)=true)
  (a2:PySem.W.findIn K (.ref cw1) "__init__" = some (some (.ref f2))) (i2:PySem.W.isFn K (.ref f2)=true) (l2:K.lookup f2=some ⟨oc2,od2,.func (PySem.W.fnOf "__init__" "Counter.__init__" (defArgs zG_) (defBody zG_) (defScope zG_) .none kV2 dc2 pm2 an2 cd2 ct2),sl2⟩) (c2:PySem.W.codeIn K cd2 "Counter.__init__" = true) (k2:PySem.W.keepIn K (.ref f2)=true)
  (a3:PySem.W.nsIn K mainGlobals "_law_stream" = some (some (.ref f3))) (l3:K.lookup f3=some ⟨oc3,od3,.func (PySem.W.fnOf "_law_stream" "_law_stream" (defArgs zaA_) (defBody zaA_) (defScope zaA_) .none kV3 dc3 pm3 an3 cd3 ct3),sl3⟩) (c3:PySem.W.codeIn K cd3 "_law_stream" = true) (k3:PySem.W.keepIn K (.ref f3)=true)
  (a4:PySem.W.nsIn K mainGlobals "_law_kinds" = some (some (.ref f4))) (l4:K.lookup f4=some ⟨oc4,od4,.func (PySem.W.fnOf "_law_kinds" "_law_kinds" (defArgs za9_) (defBody za9_) (defScope za9_) .none kV4 dc4 pm4 an4 cd4 ct4),sl4⟩) (c4:PySem.W.codeIn K cd4 "_law_kinds" = true) (k4:PySem.W.keepIn K (.ref f4)=true)
  (a5:PySem.W.nsIn K mainGlobals "_law_board" = some (some (.ref f5))) (l5:K.lookup f5=some ⟨oc5,od5,.func (PySem.W.fnOf "_law_board" "_law_board" (defArgs za7_) (defBody za7_) (defScope za7_) .none kV5 dc5 pm5 an5 cd5 ct5),sl5⟩) (c5:PySem.W.codeIn K cd5 "_law_board" = true) (k5:PySem.W.keepIn K (.ref f5)=true)
  (a6:PySem.W.findIn K (.ref cw1) "overs" = some (some (.ref f6))) (i6:PySem.W.isFn K (.ref f6)=true) (l6:K.lookup f6=some ⟨oc6,od6,.func (PySem.W.fnOf "overs" "Counter.overs" (defArgs zZ_) (defBody zZ_) (defScope zZ_) .none kV6 dc6 pm6 an6 cd6 ct6),sl6⟩) (c6:PySem.W.codeIn K cd6 "Counter.overs" = true) (k6:PySem.W.keepIn K (.ref f6)=true)
  (a7:PySem.W.nsIn K mainGlobals "_law_cell_at" = some (some (.ref f7))) (l7:K.lookup f7=some ⟨oc7,od7,.func (PySem.W.fnOf "_law_cell_at" "_law_cell_at" (defArgs zal_) (defBody zal_) (defScope zal_) .none kV7 dc7 pm7 an7 cd7 ct7),sl7⟩) (c7:PySem.W.codeIn K cd7 "_law_cell_at" = true) (k7:PySem.W.keepIn K (.ref f7)=true)
  (a8:PySem.W.nsIn K mainGlobals "_law_field" = some (some (.ref f8))) (l8:K.lookup f8=some ⟨oc8,od8,.func (PySem.W.fnOf "_law_field" "_law_field" (defArgs za5_) (defBody za5_) (defScope za5_) .none kV8 dc8 pm8 an8 cd8 ct8),sl8⟩) (c8:PySem.W.codeIn K cd8 "_law_field" = true) (k8:PySem.W.keepIn K (.ref f8)=true)
  (a9:PySem.W.nsIn K mainGlobals "_law_card" = some (some (.ref f9))) (l9:K.lookup f9=some ⟨oc9,od9,.func (PySem.W.fnOf "_law_card" "_law_card" (defArgs zbp_) (defBody zbp_) (defScope zbp_) .none kV9 dc9 pm9 an9 cd9 ct9),sl9⟩) (c9:PySem.W.codeIn K cd9 "_law_card" = true) (k9:PySem.W.keepIn K (.ref f9)=true)
  (a10:PySem.W.findIn K (.ref cw0) "rise" = some (some (.ref f10))) (i10:PySem.W.isFn K (.ref f10)=true) (l10:K.lookup f10=some ⟨oc10,od10,.func (PySem.W.fnOf "rise" "Wheel.rise" (defArgs zaD_) (defBody zaD_) (defScope zaD_) .none kV10 dc10 pm10 an10 cd10 ct10),sl10⟩) (c10:PySem.W.codeIn K cd10 "Wheel.rise" = true) (k10:PySem.W.keepIn K (.ref f10)=true)
  (a11:PySem.W.findIn K (.ref cw0) "ran_over" = some (some (.ref f11))) (i11:PySem.W.isFn K (.ref f11)=true) (l11:K.lookup f11=some ⟨oc11,od11,.func (PySem.W.fnOf "ran_over" "Wheel.ran_over" (defArgs zO_) (defBody zO_) (defScope zO_) .none kV11 dc11 pm11 an11 cd11 ct11),sl11⟩) (c11:PySem.W.codeIn K cd11 "Wheel.ran_over" = true) (k11:PySem.W.keepIn K (.ref f11)=true)
  (a12:PySem.W.findIn K (.ref cw1) "raise_level" = some (some (.ref f12))) (i12:PySem.W.isFn K (.ref f12)=true) (l12:K.lookup f12=some ⟨oc12,od12,.func (PySem.W.fnOf "raise_level" "Counter.raise_level" (defArgs zy_) (defBody zy_) (defScope zy_) .none kV12 dc12 pm12 an12 cd12 ct12),sl12⟩) (c12:PySem.W.codeIn K cd12 "Counter.raise_level" = true) (k12:PySem.W.keepIn K (.ref f12)=true)
  (a13:PySem.W.findIn K (.ref cw0) "shown" = some (some (.ref f13))) (i13:PySem.W.isFn K (.ref f13)=true) (l13:K.lookup f13=some ⟨oc13,od13,.func (PySem.W.fnOf "shown" "Wheel.shown" (defArgs zam_) (defBody zam_) (defScope zam_) .none kV13 dc13 pm13 an13 cd13 ct13),sl13⟩) (c13:PySem.W.codeIn K cd13 "Wheel.shown" = true) (k13:PySem.W.keepIn K (.ref f13)=true)
  (a14:PySem.W.nsIn K mainGlobals "part_of" = some (some (.ref f14))) (l14:K.lookup f14=some ⟨oc14,od14,.func (PySem.W.fnOf "part_of" "part_of" (defArgs zbR_) (defBody zbR_) (defScope zbR_) .none kV14 dc14 pm14 an14 cd14 ct14),sl14⟩) (c14:PySem.W.codeIn K cd14 "part_of" = true) (k14:PySem.W.keepIn K (.ref f14)=true)
  (a15:PySem.W.findIn K (.ref cw1) "total_line" = some (some (.ref f15))) (i15:PySem.W.isFn K (.ref f15)=true) (l15:K.lookup f15=some ⟨oc15,od15,.func (PySem.W.fnOf "total_line" "Counter.total_line" (defArgs zC_) (defBody zC_) (defScope zC_) .none kV15 dc15 pm15 an15 cd15 ct15),sl15⟩) (c15:PySem.W.codeIn K cd15 "Counter.total_line" = true) (k15:PySem.W.keepIn K (.ref f15)=true)
  (a16:PySem.W.findIn K (.ref cw0) "reset" = some (some (.ref f16))) (i16:PySem.W.isFn K (.ref f16)=true) (l16:K.lookup f16=some ⟨oc16,od16,.func (PySem.W.fnOf "reset" "Wheel.reset" (defArgs zap_) (defBody zap_) (defScope zap_) .none kV16 dc16 pm16 an16 cd16 ct16),sl16⟩) (c16:PySem.W.codeIn K cd16 "Wheel.reset" = true) (k16:PySem.W.keepIn K (.ref f16)=true)
  (a17:PySem.W.findIn K (.ref cw0) "amount" = some (some (.ref f17))) (i17:PySem.W.isFn K (.ref f17)=true) (l17:K.lookup f17=some ⟨oc17,od17,.func (PySem.W.fnOf "amount" "Wheel.amount" (defArgs zae_) (defBody zae_) (defScope zae_) .none kV17 dc17 pm17 an17 cd17 ct17),sl17⟩) (c17:PySem.W.codeIn K cd17 "Wheel.amount" = true) (k17:PySem.W.keepIn K (.ref f17)=true)
  (a18:PySem.W.findIn K (.ref cw1) "close_level" = some (some (.ref f18))) (i18:PySem.W.isFn K (.ref f18)=true) (l18:K.lookup f18=some ⟨oc18,od18,.func (PySem.W.fnOf "close_level" "Counter.close_level" (defArgs zx_) (defBody zx_) (defScope zx_) .none kV18 dc18 pm18 an18 cd18 ct18),sl18⟩) (c18:PySem.W.codeIn K cd18 "Counter.close_level" = true) (k18:PySem.W.keepIn K (.ref f18)=true)
  (a19:PySem.W.findIn K (.ref cw1) "close_levels" = some (some (.ref f19))) (i19:PySem.W.isFn K (.ref f19)=true) (l19:K.lookup f19=some ⟨oc19,od19,.func (PySem.W.fnOf "close_levels" "Counter.close_levels" (defArgs zu_) (defBody zu_) (defScope zu_) .none kV19 dc19 pm19 an19 cd19 ct19),sl19⟩) (c19:PySem.W.codeIn K cd19 "Counter.close_levels" = true) (k19:PySem.W.keepIn K (.ref f19)=true)
  (a20:PySem.W.nsIn K mainGlobals "mark_of" = some (some (.ref f20))) (l20:K.lookup f20=some ⟨oc20,od20,.func (PySem.W.fnOf "mark_of" "mark_of" (defArgs zbU_) (defBody zbU_) (defScope zbU_) .none kV20 dc20 pm20 an20 cd20 ct20),sl20⟩) (c20:PySem.W.codeIn K cd20 "mark_of" = true) (k20:PySem.W.keepIn K (.ref f20)=true)
  (a21:PySem.W.nsIn K mainGlobals "sign_at" = some (some (.ref f21))) (l21:K.lookup f21=some ⟨oc21,od21,.func (PySem.W.fnOf "sign_at" "sign_at" (defArgs zbP_) (defBody zbP_) (defScope zbP_) .none kV21 dc21 pm21 an21 cd21 ct21),sl21⟩) (c21:PySem.W.codeIn K cd21 "sign_at" = true) (k21:PySem.W.keepIn K (.ref f21)=true)
  (a22:PySem.W.nsIn K mainGlobals "lay_out" = some (some (.ref f22))) (l22:K.lookup f22=some ⟨oc22,od22,.func (PySem.W.fnOf "lay_out" "lay_out" (defArgs zbT_) (defBody zbT_) (defScope zbT_) .none kV22 dc22 pm22 an22 cd22 ct22),sl22⟩) (c22:PySem.W.codeIn K cd22 "lay_out" = true) (k22:PySem.W.keepIn K (.ref f22)=true)
  (a23:PySem.W.findIn K (.ref cw1) "changed_level" = some (some (.ref f23))) (i23:PySem.W.isFn K (.ref f23)=true) (l23:K.lookup f23=some ⟨oc23,od23,.func (PySem.W.fnOf "changed_level" "Counter.changed_level" (defArgs zr_) (defBody zr_) (defScope zr_) .none kV23 dc23 pm23 an23 cd23 ct23),sl23⟩) (c23:PySem.W.codeIn K cd23 "Counter.changed_level" = true) (k23:PySem.W.keepIn K (.ref f23)=true)
  (a24:PySem.W.nsIn K mainGlobals "number_by" = some (some (.ref f24))) (l24:K.lookup f24=some ⟨oc24,od24,.func (PySem.W.fnOf "number_by" "number_by" (defArgs zba_) (defBody zba_) (defScope zba_) .none kV24 dc24 pm24 an24 cd24 ct24),sl24⟩) (c24:PySem.W.codeIn K cd24 "number_by" = true) (k24:PySem.W.keepIn K (.ref f24)=true)
  (a25:PySem.W.nsIn K mainGlobals "number_of" = some (some (.ref f25))) (l25:K.lookup f25=some ⟨oc25,od25,.func (PySem.W.fnOf "number_of" "number_of" (defArgs za4_) (defBody za4_) (defScope za4_) .none kV25 dc25 pm25 an25 cd25 ct25),sl25⟩) (c25:PySem.W.codeIn K cd25 "number_of" = true) (k25:PySem.W.keepIn K (.ref f25)=true)
  (a26:PySem.W.findIn K (.ref cw1) "feed" = some (some (.ref f26))) (i26:PySem.W.isFn K (.ref f26)=true) (l26:K.lookup f26=some ⟨oc26,od26,.func (PySem.W.fnOf "feed" "Counter.feed" (defArgs zad_) (defBody zad_) (defScope zad_) .none kV26 dc26 pm26 an26 cd26 ct26),sl26⟩) (c26:PySem.W.codeIn K cd26 "Counter.feed" = true) (k26:PySem.W.keepIn K (.ref f26)=true)
  (a27:PySem.W.nsIn K mainGlobals "_law_texts" = some (some (.ref f27))) (l27:K.lookup f27=some ⟨oc27,od27,.func (PySem.W.fnOf "_law_texts" "_law_texts" (defArgs za0_) (defBody za0_) (defScope za0_) .none kV27 dc27 pm27 an27 cd27 ct27),sl27⟩) (c27:PySem.W.codeIn K cd27 "_law_texts" = true) (k27:PySem.W.keepIn K (.ref f27)=true)
  (a28:PySem.W.findIn K (.ref cw1) "finish" = some (some (.ref f28))) (i28:PySem.W.isFn K (.ref f28)=true) (l28:K.lookup f28=some ⟨oc28,od28,.func (PySem.W.fnOf "finish" "Counter.finish" (defArgs zP_) (defBody zP_) (defScope zP_) .none kV28 dc28 pm28 an28 cd28 ct28),sl28⟩) (c28:PySem.W.codeIn K cd28 "Counter.finish" = true) (k28:PySem.W.keepIn K (.ref f28)=true)
  (a29:PySem.W.nsIn K mainGlobals "_law_shown" = some (some (.ref f29))) (l29:K.lookup f29=some ⟨oc29,od29,.func (PySem.W.fnOf "_law_shown" "_law_shown" (defArgs za6_) (defBody za6_) (defScope za6_) .none kV29 dc29 pm29 an29 cd29 ct29),sl29⟩) (c29:PySem.W.codeIn K cd29 "_law_shown" = true) (k29:PySem.W.keepIn K (.ref f29)=true)
  (a30:PySem.W.nsIn K mainGlobals "_law_card_line" = some (some (.ref f30))) (l30:K.lookup f30=some ⟨oc30,od30,.func (PySem.W.fnOf "_law_card_line" "_law_card_line" (defArgs z3_) (defBody z3_) (defScope z3_) .none kV30 dc30 pm30 an30 cd30 ct30),sl30⟩) (c30:PySem.W.codeIn K cd30 "_law_card_line" = true) (k30:PySem.W.keepIn K (.ref f30)=true)
  (a31:PySem.W.nsIn K mainGlobals "_law_number" = some (some (.ref f31))) (l31:K.lookup f31=some ⟨oc31,od31,.func (PySem.W.fnOf "_law_number" "_law_number" (defArgs zaB_) (defBody zaB_) (defScope zaB_) .none kV31 dc31 pm31 an31 cd31 ct31),sl31⟩) (c31:PySem.W.codeIn K cd31 "_law_number" = true) (k31:PySem.W.keepIn K (.ref f31)=true)
  (a32:PySem.W.nsIn K mainGlobals "law" = some (some (.ref f32))) (l32:K.lookup f32=some ⟨oc32,od32,.func (PySem.W.fnOf "law" "law" (defArgs ziU_) (defBody ziU_) (defScope ziU_) .none kV32 dc32 pm32 an32 cd32 ct32),sl32⟩) (c32:PySem.W.codeIn K cd32 "law" = true) (k32:PySem.W.keepIn K (.ref f32)=true)
  {uc0:Value}(x0:PySem.W.nsIn K mainGlobals "BODY_WIDTH" = some (some uc0)) (y0:RelV (.int 36) uc0)
  {uc1:Value}(x1:PySem.W.nsIn K mainGlobals "FIGURES" = some (some uc1)) (y1:RelV (tx [48,49,50,51,52,53,54,55,56,57]) uc1)
  (z0:PySem.W.nsIn K mainGlobals "range" = some none)
  (z1:PySem.W.nsIn K mainGlobals "list" = some none)
  (z2:PySem.W.nsIn K mainGlobals "len" = some none)
  (z3:PySem.W.nsIn K mainGlobals "sorted" = some none)
  (z4:PySem.W.nsIn K mainGlobals "min" = some none)
  (z5:PySem.W.nsIn K mainGlobals "enumerate" = some none)
  (z6:PySem.W.nsIn K mainGlobals "str" = some none)
  (z7:PySem.W.nsIn K mainGlobals "isinstance" = some none)
  (z8:PySem.W.nsIn K mainGlobals "max" = some none)
  (z9:PySem.W.nsIn K mainGlobals "zip" = some none) :
  ∃ fd:FuncData,(∀ (s:Shared) (v:Value),BindsTo s fd ⟨[v],[]⟩ [("_law_script",v)])∧∀ base:Heap,K.In base→base.Ns mainGlobals mg→FnOk l.prog w K mg base CX0 6 fa fd ["_law_script"] (zgS_ K):=by
 have e:=hfa.symm.trans (PySem.W.mg_of X G a32)
 cases e
 have F0:=zbd_ (st:=zcG_) l0 c0 k0
 have b0:=F0.binds (ps:=["power"]) fun _ _ _ _ _ _ us hl=>match us,hl with | [_],_=>rfl
 have F1:=zbd_ (st:=zN_) l1 c1 k1
 have b1:=F1.binds (ps:=Qn24) fun _ _ _ _ _ _ us hl=>match us,hl with | [_,_],_=>rfl
 have F2:=zbd_ (st:=zG_) l2 c2 k2
 have b2:=F2.binds (ps:=Qn5) fun _ _ _ _ _ _ us hl=>match us,hl with | [_,_,_,_,_],_=>rfl
 have F3:=zbd_ (st:=zaA_) l3 c3 k3
 have b3:=F3.binds (ps:=Qn10) fun _ _ _ _ _ _ us hl=>match us,hl with | [_,_],_=>rfl
 have F4:=zbd_ (st:=za9_) l4 c4 k4
 have b4:=F4.binds (ps:=Qn22) fun _ _ _ _ _ _ us hl=>match us,hl with | [_],_=>rfl
 have F5:=zbd_ (st:=za7_) l5 c5 k5
 have b5:=F5.binds (ps:=Qn22) fun _ _ _ _ _ _ us hl=>match us,hl with | [_],_=>rfl
 have F6:=zbd_ (st:=zZ_) l6 c6 k6
 have b6:=F6.binds (ps:=Qn4) fun _ _ _ _ _ _ us hl=>match us,hl with | [_],_=>rfl
 have F7:=zbd_ (st:=zal_) l7 c7 k7
 have b7:=F7.binds (ps:=Qn14) fun _ _ _ _ _ _ us hl=>match us,hl with | [_,_],_=>rfl
 have F8:=zbd_ (st:=za5_) l8 c8 k8
 have b8:=F8.binds (ps:=Qn18) fun _ _ _ _ _ _ us hl=>match us,hl with | [_,_],_=>rfl
 have F9:=zbd_ (st:=zbp_) l9 c9 k9
 have b9:=F9.binds (ps:=Qn15) fun _ _ _ _ _ _ us hl=>match us,hl with | [_,_,_],_=>rfl
 have F10:=zbd_ (st:=zaD_) l10 c10 k10
 have b10:=F10.binds (ps:=["self", "value"]) fun _ _ _ _ _ _ us hl=>match us,hl with | [_,_],_=>rfl
 have F11:=zbd_ (st:=zO_) l11 c11 k11
 have b11:=F11.binds (ps:=Qn4) fun _ _ _ _ _ _ us hl=>match us,hl with | [_],_=>rfl
 have F12:=zbd_ (st:=zy_) l12 c12 k12
 have b12:=F12.binds (ps:=Qn19) fun _ _ _ _ _ _ us hl=>match us,hl with | [_,_,_],_=>rfl
 have F13:=zbd_ (st:=zam_) l13 c13 k13
 have b13:=F13.binds (ps:=Qn4) fun _ _ _ _ _ _ us hl=>match us,hl with | [_],_=>rfl
 have F14:=zbd_ (st:=zbR_) l14 c14 k14
 have b14:=F14.binds (ps:=Qn7) fun _ _ _ _ _ _ us hl=>match us,hl with | [_,_],_=>rfl
 have F15:=zbd_ (st:=zC_) l15 c15 k15
 have b15:=F15.binds (ps:=Qn16) fun _ _ _ _ _ _ us hl=>match us,hl with | [_,_],_=>rfl
 have F16:=zbd_ (st:=zap_) l16 c16 k16
 have b16:=F16.binds (ps:=Qn4) fun _ _ _ _ _ _ us hl=>match us,hl with | [_],_=>rfl
 have F17:=zbd_ (st:=zae_) l17 c17 k17
 have b17:=F17.binds (ps:=Qn4) fun _ _ _ _ _ _ us hl=>match us,hl with | [_],_=>rfl
 have F18:=zbd_ (st:=zx_) l18 c18 k18
 have b18:=F18.binds (ps:=Qn16) fun _ _ _ _ _ _ us hl=>match us,hl with | [_,_],_=>rfl
 have F19:=zbd_ (st:=zu_) l19 c19 k19
 have b19:=F19.binds (ps:=Qn30) fun _ _ _ _ _ _ us hl=>match us,hl with | [_,_],_=>rfl
 have F20:=zbd_ (st:=zbU_) l20 c20 k20
 have b20:=F20.binds (ps:=["card"]) fun _ _ _ _ _ _ us hl=>match us,hl with | [_],_=>rfl
 have F21:=zbd_ (st:=zbP_) l21 c21 k21
 have b21:=F21.binds (ps:=Qn26) fun _ _ _ _ _ _ us hl=>match us,hl with | [_,_],_=>rfl
 have F22:=zbd_ (st:=zbT_) l22 c22 k22
 have b22:=F22.binds (ps:=["card", "board"]) fun _ _ _ _ _ _ us hl=>match us,hl with | [_,_],_=>rfl
 have F23:=zbd_ (st:=zr_) l23 c23 k23
 have b23:=F23.binds (ps:=Qn29) fun _ _ _ _ _ _ us hl=>match us,hl with | [_,_],_=>rfl
 have F24:=zbd_ (st:=zba_) l24 c24 k24
 have b24:=F24.binds (ps:=["figures"]) fun _ _ _ _ _ _ us hl=>match us,hl with | [_],_=>rfl
 have F25:=zbd_ (st:=za4_) l25 c25 k25
 have b25:=F25.binds (ps:=Qn7) fun _ _ _ _ _ _ us hl=>match us,hl with | [_,_],_=>rfl
 have F26:=zbd_ (st:=zad_) l26 c26 k26
 have b26:=F26.binds (ps:=Qn29) fun _ _ _ _ _ _ us hl=>match us,hl with | [_,_],_=>rfl
 have F27:=zbd_ (st:=za0_) l27 c27 k27
 have b27:=F27.binds (ps:=["_law_found", "_law_due"]) fun _ _ _ _ _ _ us hl=>match us,hl with | [_,_],_=>rfl
 have F28:=zbd_ (st:=zP_) l28 c28 k28
 have b28:=F28.binds (ps:=Qn4) fun _ _ _ _ _ _ us hl=>match us,hl with | [_],_=>rfl
 have F29:=zbd_ (st:=za6_) l29 c29 k29
 have b29:=F29.binds (ps:=Qn23) fun _ _ _ _ _ _ us hl=>match us,hl with | [_,_],_=>rfl
 have F30:=zbd_ (st:=z3_) l30 c30 k30
 have b30:=F30.binds (ps:=Qn20) fun _ _ _ _ _ _ us hl=>match us,hl with | [_,_],_=>rfl
 have F31:=zbd_ (st:=zaB_) l31 c31 k31
 have b31:=F31.binds (ps:=Qn21) fun _ _ _ _ _ _ us hl=>match us,hl with | [_,_],_=>rfl
 have F32:=zbd_ (st:=ziU_) l32 c32 k32
 refine ⟨PySem.W.fnOf "law" "law" (defArgs ziU_) (defBody ziU_) (defScope ziU_) .none kV32 dc32 pm32 an32 cd32 ct32,fun s v=>.of_eq rfl,fun base _ _=>?_⟩
 have C_BODY_WIDTH:Gc mg "BODY_WIDTH" (.int 36):=⟨_,PySem.W.mg_of X G x0,y0⟩
 have C_FIGURES:Gc mg "FIGURES" (tx [48,49,50,51,52,53,54,55,56,57]):=⟨_,PySem.W.mg_of X G x1,y1⟩
 have B_range:Gb mg "range" := PySem.W.mg_none_of X G z0
 have B_list:Gb mg "list" := PySem.W.mg_none_of X G z1
 have B_len:Gb mg "len" := PySem.W.mg_none_of X G z2
 have B_sorted:Gb mg "sorted" := PySem.W.mg_none_of X G z3
 have B_min:Gb mg "min" := PySem.W.mg_none_of X G z4
 have B_enumerate:Gb mg "enumerate" := PySem.W.mg_none_of X G z5
 have B_str:Gb mg "str" := PySem.W.mg_none_of X G z6
 have B_isinstance:Gb mg "isinstance" := PySem.W.mg_none_of X G z7
 have B_max:Gb mg "max" := PySem.W.mg_none_of X G z8
 have B_zip:Gb mg "zip" := PySem.W.mg_none_of X G z9
 have CL_Wheel:Cls K (gA K "Wheel"):=by rw [zdU_ w0]; exact ⟨pg0,hd0,po0,sa0⟩
 have CL_Counter:Cls K (gA K "Counter"):=by rw [zdU_ w1]; exact ⟨pg1,hd1,po1,sa1⟩
 have NA_Wheel_figures:NoAttr K (gA K "Wheel") "figures" := by rw [zdU_ w0]; exact na0
 have NA_Wheel_power:NoAttr K (gA K "Wheel") "power" := by rw [zdU_ w0]; exact na1
 have NA_Wheel_kept:NoAttr K (gA K "Wheel") "kept" := by rw [zdU_ w0]; exact na2
 have NA_Wheel_over:NoAttr K (gA K "Wheel") "over" := by rw [zdU_ w0]; exact na3
 have NA_Counter_breaks:NoAttr K (gA K "Counter") "breaks" := by rw [zdU_ w1]; exact na4
 have NA_Counter_sums:NoAttr K (gA K "Counter") "sums" := by rw [zdU_ w1]; exact na5
 have NA_Counter_board:NoAttr K (gA K "Counter") "board" := by rw [zdU_ w1]; exact na6
 have NA_Counter_levels:NoAttr K (gA K "Counter") "levels" := by rw [zdU_ w1]; exact na7
 have NA_Counter_before:NoAttr K (gA K "Counter") "before" := by rw [zdU_ w1]; exact na8
 have NA_Counter_run_over:NoAttr K (gA K "Counter") "run_over" := by rw [zdU_ w1]; exact na9
 have G_ten_to:Gd l.prog w K mg base CX0 1 "ten_to" ["power"] (zbO_ K):=⟨_,_,zkX_ B_range F0 zjp_ zlJ_,PySem.W.mg_of X G a0,k0,b0⟩
 have G_Wheel___init__:Gk l.prog w K mg base CX0 2 "Wheel" (gA K "Wheel") Qn24 (zI_ K):=⟨_,_,zeN_ G_ten_to CL_Wheel NA_Wheel_figures NA_Wheel_power NA_Wheel_kept NA_Wheel_over F1 zer_ zeC_,(by rw [zdU_ w0]; exact ⟨mk0,a1,i1,kc0⟩),(by rw [zdU_ w0]; exact PySem.W.mg_of X G w0),b1⟩
 have G_Counter___init__:Gk l.prog w K mg base CX0 4 "Counter" (gA K "Counter") Qn5 (zD_ K):=⟨_,_,zd9_ G_Wheel___init__ B_list B_range B_len CL_Counter NA_Counter_breaks NA_Counter_sums NA_Counter_board NA_Counter_levels NA_Counter_before NA_Counter_run_over F2 zdH_ zdX_,(by rw [zdU_ w1]; exact ⟨mk1,a2,i2,kc1⟩),(by rw [zdU_ w1]; exact PySem.W.mg_of X G w1),b2⟩
 have G_law_stream:Gd l.prog w K mg base CX0 1 "_law_stream" Qn10 (zw_ K):=⟨_,_,zgs_ B_range F3 zf5_ zgz_,PySem.W.mg_of X G a3,k3,b3⟩
 have G_law_kinds:Gd l.prog w K mg base CX0 2 "_law_kinds" Qn22 (zaK_ K):=⟨_,_,zhy_ G_law_stream F4 zgV_ zhs_,PySem.W.mg_of X G a4,k4,b4⟩
 have G_law_board:Gd l.prog w K mg base CX0 2 "_law_board" Qn22 (zaC_ K):=⟨_,_,zhC_ G_law_stream B_range F5 zg3_ zhJ_,PySem.W.mg_of X G a5,k5,b5⟩
 have G_Counter_overs:Gm l.prog w K mg base CX0 1 (gA K "Counter") "overs" Qn4 (zE_ K):=⟨_,_,ze6_ B_sorted CL_Counter NA_Counter_run_over F6 zeO_ zfn_,CL_Counter,(by rw [zdU_ w1]; exact ⟨a6,i6,k6⟩),b6⟩
 have G_law_cell_at:Gd l.prog w K mg base CX0 1 "_law_cell_at" Qn14 (zH_ K):=⟨_,_,zf3_ B_len F7 zfE_ zgo_,PySem.W.mg_of X G a7,k7,b7⟩
 have G_law_field:Gd l.prog w K mg base CX0 1 "_law_field" Qn18 (zaJ_ K):=⟨_,_,zhz_ B_min F8 zgF_ zhQ_,PySem.W.mg_of X G a8,k8,b8⟩
 have G_law_card:Gd l.prog w K mg base CX0 2 "_law_card" Qn15 (za2_ K):=⟨_,_,ziK_ G_law_stream B_range F9 zhl_ ziP_,PySem.W.mg_of X G a9,k9,b9⟩
 have G_Wheel_rise:Gm l.prog w K mg base CX0 1 (gA K "Wheel") "rise" ["self", "value"] (zao_ K):=⟨_,_,zgT_ CL_Wheel NA_Wheel_kept NA_Wheel_power NA_Wheel_over F10 zga_ zg0_,CL_Wheel,(by rw [zdU_ w0]; exact ⟨a10,i10,k10⟩),b10⟩
 have G_Wheel_ran_over:Gm l.prog w K mg base CX0 1 (gA K "Wheel") "ran_over" Qn4 (zJ_ K):=⟨_,_,zey_ CL_Wheel NA_Wheel_over F11 zej_ zeP_,CL_Wheel,(by rw [zdU_ w0]; exact ⟨a11,i11,k11⟩),b11⟩
 have G_Counter_raise_level:Gm l.prog w K mg base CX0 2 (gA K "Counter") "raise_level" Qn19 (zi_ K):=⟨_,_,zc3_ G_Wheel_rise G_Wheel_ran_over B_enumerate CL_Counter NA_Counter_levels NA_Counter_run_over F12 zcZ_ zdh_,CL_Counter,(by rw [zdU_ w1]; exact ⟨a12,i12,k12⟩),b12⟩
 have G_Wheel_shown:Gm l.prog w K mg base CX0 1 (gA K "Wheel") "shown" Qn4 (zaf_ K):=⟨_,_,zf7_ B_str CL_Wheel NA_Wheel_kept NA_Wheel_figures F13 zfO_ zgg_,CL_Wheel,(by rw [zdU_ w0]; exact ⟨a13,i13,k13⟩),b13⟩
 have G_part_of:Gd l.prog w K mg base CX0 1 "part_of" Qn7 (z8_ K):=⟨_,_,zi6_  F14 ziF_ zja_,PySem.W.mg_of X G a14,k14,b14⟩
 have G_Counter_total_line:Gm l.prog w K mg base CX0 2 (gA K "Counter") "total_line" Qn16 (zz_ K):=⟨_,_,zdy_ G_part_of G_Wheel_shown B_len CL_Counter NA_Counter_breaks NA_Counter_before NA_Counter_levels F15 zc7_ zdz_,CL_Counter,(by rw [zdU_ w1]; exact ⟨a15,i15,k15⟩),b15⟩
 have G_Wheel_reset:Gm l.prog w K mg base CX0 1 (gA K "Wheel") "reset" Qn4 (zac_ K):=⟨_,_,zgj_ CL_Wheel NA_Wheel_kept NA_Wheel_over F16 zfL_ zgk_,CL_Wheel,(by rw [zdU_ w0]; exact ⟨a16,i16,k16⟩),b16⟩
 have G_Wheel_amount:Gm l.prog w K mg base CX0 1 (gA K "Wheel") "amount" Qn4 (z2_ K):=⟨_,_,zfK_ CL_Wheel NA_Wheel_kept F17 zfo_ zfM_,CL_Wheel,(by rw [zdU_ w0]; exact ⟨a17,i17,k17⟩),b17⟩
 have G_Counter_close_level:Gm l.prog w K mg base CX0 3 (gA K "Counter") "close_level" Qn16 (zh_ K):=⟨_,_,zc9_ G_Counter_total_line G_Counter_raise_level G_Wheel_amount G_Wheel_reset CL_Counter NA_Counter_levels F18 zcW_ zda_,CL_Counter,(by rw [zdU_ w1]; exact ⟨a18,i18,k18⟩),b18⟩
 have G_Counter_close_levels:Gm l.prog w K mg base CX0 4 (gA K "Counter") "close_levels" Qn30 (zg_ K):=⟨_,_,zcX_ G_Counter_close_level B_range B_len CL_Counter NA_Counter_breaks F19 zcC_ zcP_,CL_Counter,(by rw [zdU_ w1]; exact ⟨a19,i19,k19⟩),b19⟩
 have G_mark_of:Gd l.prog w K mg base CX0 1 "mark_of" ["card"] (zbx_ K):=⟨_,_,zjf_ C_BODY_WIDTH F20 ziy_ zjg_,PySem.W.mg_of X G a20,k20,b20⟩
 have G_sign_at:Gd l.prog w K mg base CX0 1 "sign_at" Qn26 (zbo_ K):=⟨_,_,zju_  F21 ziD_ zjl_,PySem.W.mg_of X G a21,k21,b21⟩
 have G_lay_out:Gd l.prog w K mg base CX0 2 "lay_out" ["card", "board"] (zbu_ K):=⟨_,_,zjW_ G_sign_at C_BODY_WIDTH B_range F22 ziQ_ zkc_,PySem.W.mg_of X G a22,k22,b22⟩
 have G_Counter_changed_level:Gm l.prog w K mg base CX0 2 (gA K "Counter") "changed_level" Qn29 (zn_ K):=⟨_,_,zcD_ G_part_of B_enumerate B_len CL_Counter NA_Counter_breaks NA_Counter_before F23 zch_ zcF_,CL_Counter,(by rw [zdU_ w1]; exact ⟨a23,i23,k23⟩),b23⟩
 have G_number_by:Gd l.prog w K mg base CX0 1 "number_by" ["figures"] (zaF_ K):=⟨_,_,zhp_ C_FIGURES F24 zha_ zhN_,PySem.W.mg_of X G a24,k24,b24⟩
 have G_number_of:Gd l.prog w K mg base CX0 2 "number_of" Qn7 (zaL_ K):=⟨_,_,zhn_ G_part_of G_number_by C_FIGURES F25 zgy_ zh2_,PySem.W.mg_of X G a25,k25,b25⟩
 have G_Counter_feed:Gm l.prog w K mg base CX0 5 (gA K "Counter") "feed" Qn29 (z0_ K):=⟨_,_,zfC_ G_Counter_close_levels G_Counter_changed_level G_mark_of G_lay_out G_Counter_raise_level G_number_of B_len CL_Counter NA_Counter_before NA_Counter_board NA_Counter_sums NA_Counter_breaks F26 zfq_ zfI_,CL_Counter,(by rw [zdU_ w1]; exact ⟨a26,i26,k26⟩),b26⟩
 have G_law_texts:Gd l.prog w K mg base CX0 1 "_law_texts" ["_law_found", "_law_due"] (zah_ K):=⟨_,_,zhe_ B_isinstance B_list B_str F27 zgH_ zhc_,PySem.W.mg_of X G a27,k27,b27⟩
 have G_Counter_finish:Gm l.prog w K mg base CX0 5 (gA K "Counter") "finish" Qn4 (zF_ K):=⟨_,_,zeH_ G_Counter_close_level G_Counter_close_levels CL_Counter NA_Counter_before F28 zeq_ zeM_,CL_Counter,(by rw [zdU_ w1]; exact ⟨a28,i28,k28⟩),b28⟩
 have G_law_shown:Gd l.prog w K mg base CX0 1 "_law_shown" Qn23 (zaI_ K):=⟨_,_,zht_ B_range F29 zgK_ zhM_,PySem.W.mg_of X G a29,k29,b29⟩
 have G_law_card_line:Gd l.prog w K mg base CX0 1 "_law_card_line" Qn20 (zM_ K):=⟨_,_,zfv_ B_range F30 zeL_ zfe_,PySem.W.mg_of X G a30,k30,b30⟩
 have G_law_number:Gd l.prog w K mg base CX0 1 "_law_number" Qn21 (zaq_ K):=⟨_,_,zgA_ B_max F31 zfY_ zgL_,PySem.W.mg_of X G a31,k31,b31⟩
 exact zpA_ (P:=l.prog) (w:=w) (base:=base) G_law_kinds G_law_cell_at G_law_stream G_law_field G_law_board G_Counter___init__ G_law_card G_Counter_feed G_law_card_line G_law_texts G_law_number G_Counter_overs G_law_shown G_Counter_finish B_list B_enumerate B_zip F32 zoo_ zp9_
theorem walk {l:PySem.W.OpenLaw}{q:Program}{loose:List Str}{XP:(Str→Option Value)→Heap→Prop}{YP:World→Heap→Prop}{d:DefRec}{K:Params→PySem.W.Frag}(hn:l.most=some 63) (hdf:d.params.defaults=[])
  (hY:∀ (w:World) (h:Heap),YP w h→(K w.params).In h)
  (F:∀ (w:World) (mg:Str→Option Value) (fa:Addr) (h:Heap),(K w.params).In h→h.Ns mainGlobals mg→mg d.name=some (.ref fa) →
   ∃ fd:FuncData,(∀ (s:Shared) (u:Value),BindsTo s fd ⟨[u],[]⟩ [("_law_script",u)])∧∀ base:Heap,(K w.params).In base→base.Ns mainGlobals mg→FnOk l.prog w (K w.params) mg base CX0 6 fa fd ["_law_script"] (zgS_ (K w.params))) :
  PySem.W.WalkO q loose XP YP l.row.toRowW d [] (fun f vs=>PySem.call f vs) :=
 L2.zmz_ (n:=63) (k:=6) (x := "_law_script") (CX:=fun _=>CX0) (sp:=fun w=>zgS_ (K w.params)) hn (by decide) hdf ⟨rfl,by decide,by decide⟩ hY F (fun _ _ a ns hl hb _ hS=>⟨a,ns,rfl,hS,hl,hb,fun _=>rfl⟩) fun _ _ _ _ _ z=>z
end K33
open PySem PySem.W PyProof.Rows
set_option maxRecDepth 100000 in
set_option maxHeartbeats 0 in
theorem PySem.Challenge.cw_cardshop_k33_cards_printed_holds : PySem.Challenge.rw_cardshop_k33_cards_printed.Holds := by
 w_on; o_law; k_head; (case hw=>w_witness2)
 k_fill
 refine K33.walk (l:=PySem.Challenge.rw_cardshop_k33_cards_printed) rfl rfl (fun w h Y=>PySem.W.kIn_of Y) ?F
 case F =>
  intro w mg fa h KX G hmg
  refine' K33.all_mk KX G hmg ?w0 ?pg0 ?hd0 ?po0 ?sa0 ?mk0 ?kc0 ?w1 ?pg1 ?hd1 ?po1 ?sa1 ?mk1 ?kc1 ?na0 ?na1 ?na2 ?na3 ?na4 ?na5 ?na6 ?na7 ?na8 ?na9 ?a0 ?l0 ?c0 ?k0 ?a1 ?i1 ?l1 ?c1 ?k1 ?a2 ?i2 ?l2 ?c2 ?k2 ?a3 ?l3 ?c3 ?k3 ?a4 ?l4 ?c4 ?k4 ?a5 ?l5 ?c5 ?k5 ?a6 ?i6 ?l6 ?c6 ?k6 ?a7 ?l7 ?c7 ?k7 ?a8 ?l8 ?c8 ?k8 ?a9 ?l9 ?c9 ?k9 ?a10 ?i10 ?l10 ?c10 ?k10 ?a11 ?i11 ?l11 ?c11 ?k11 ?a12 ?i12 ?l12 ?c12 ?k12 ?a13 ?i13 ?l13 ?c13 ?k13 ?a14 ?l14 ?c14 ?k14 ?a15 ?i15 ?l15 ?c15 ?k15 ?a16 ?i16 ?l16 ?c16 ?k16 ?a17 ?i17 ?l17 ?c17 ?k17 ?a18 ?i18 ?l18 ?c18 ?k18 ?a19 ?i19 ?l19 ?c19 ?k19 ?a20 ?l20 ?c20 ?k20 ?a21 ?l21 ?c21 ?k21 ?a22 ?l22 ?c22 ?k22 ?a23 ?i23 ?l23 ?c23 ?k23 ?a24 ?l24 ?c24 ?k24 ?a25 ?l25 ?c25 ?k25 ?a26 ?i26 ?l26 ?c26 ?k26 ?a27 ?l27 ?c27 ?k27 ?a28 ?i28 ?l28 ?c28 ?k28 ?a29 ?l29 ?c29 ?k29 ?a30 ?l30 ?c30 ?k30 ?a31 ?l31 ?c31 ?k31 ?a32 ?l32 ?c32 ?k32 ?x0 ?y0 ?x1 ?y1 ?z0 ?z1 ?z2 ?z3 ?z4 ?z5 ?z6 ?z7 ?z8 ?z9
  (case w0=>k_is)
  (case pg0=>k_is)
  (case hd0=>k_is)
  (case po0=>k_is)
  (case sa0=>k_is)
  (case mk0=>k_is)
  (case kc0=>k_is)
  (case w1=>k_is)
  (case pg1=>k_is)
  (case hd1=>k_is)
  (case po1=>k_is)
  (case sa1=>k_is)
  (case mk1=>k_is)
  (case kc1=>k_is)
  (case na0=>k_is)
  (case na1=>k_is)
  (case na2=>k_is)
  (case na3=>k_is)
  (case na4=>k_is)
  (case na5=>k_is)
  (case na6=>k_is)
  (case na7=>k_is)
  (case na8=>k_is)
  (case na9=>k_is)
  (case a0=>k_is)
  (case l0=>k_is)
  (case c0=>k_is)
  (case k0=>k_is)
  (case a1=>k_is)
  (case i1=>k_is)
  (case l1=>k_is)
  (case c1=>k_is)
  (case k1=>k_is)
  (case a2=>k_is)
  (case i2=>k_is)
  (case l2=>k_is)
  (case c2=>k_is)
  (case k2=>k_is)
  (case a3=>k_is)
  (case l3=>k_is)
  (case c3=>k_is)
  (case k3=>k_is)
  (case a4=>k_is)
  (case l4=>k_is)
  (case c4=>k_is)
  (case k4=>k_is)
  (case a5=>k_is)
  (case l5=>k_is)
  (case c5=>k_is)
  (case k5=>k_is)
  (case a6=>k_is)
  (case i6=>k_is)
  (case l6=>k_is)
  (case c6=>k_is)
  (case k6=>k_is)
  (case a7=>k_is)
  (case l7=>k_is)
  (case c7=>k_is)
  (case k7=>k_is)
  (case a8=>k_is)
  (case l8=>k_is)
  (case c8=>k_is)
  (case k8=>k_is)
  (case a9=>k_is)
  (case l9=>k_is)
  (case c9=>k_is)
  (case k9=>k_is)
  (case a10=>k_is)
  (case i10=>k_is)
  (case l10=>k_is)
  (case c10=>k_is)
  (case k10=>k_is)
  (case a11=>k_is)
  (case i11=>k_is)
  (case l11=>k_is)
  (case c11=>k_is)
  (case k11=>k_is)
  (case a12=>k_is)
  (case i12=>k_is)
  (case l12=>k_is)
  (case c12=>k_is)
  (case k12=>k_is)
  (case a13=>k_is)
  (case i13=>k_is)
  (case l13=>k_is)
  (case c13=>k_is)
  (case k13=>k_is)
  (case a14=>k_is)
  (case l14=>k_is)
  (case c14=>k_is)
  (case k14=>k_is)
  (case a15=>k_is)
  (case i15=>k_is)
  (case l15=>k_is)
  (case c15=>k_is)
  (case k15=>k_is)
  (case a16=>k_is)
  (case i16=>k_is)
  (case l16=>k_is)
  (case c16=>k_is)
  (case k16=>k_is)
  (case a17=>k_is)
  (case i17=>k_is)
  (case l17=>k_is)
  (case c17=>k_is)
  (case k17=>k_is)
  (case a18=>k_is)
  (case i18=>k_is)
  (case l18=>k_is)
  (case c18=>k_is)
  (case k18=>k_is)
  (case a19=>k_is)
  (case i19=>k_is)
  (case l19=>k_is)
  (case c19=>k_is)
  (case k19=>k_is)
  (case a20=>k_is)
  (case l20=>k_is)
  (case c20=>k_is)
  (case k20=>k_is)
  (case a21=>k_is)
  (case l21=>k_is)
  (case c21=>k_is)
  (case k21=>k_is)
  (case a22=>k_is)
  (case l22=>k_is)
  (case c22=>k_is)
  (case k22=>k_is)
  (case a23=>k_is)
  (case i23=>k_is)
  (case l23=>k_is)
  (case c23=>k_is)
  (case k23=>k_is)
  (case a24=>k_is)
  (case l24=>k_is)
  (case c24=>k_is)
  (case k24=>k_is)
  (case a25=>k_is)
  (case l25=>k_is)
  (case c25=>k_is)
  (case k25=>k_is)
  (case a26=>k_is)
  (case i26=>k_is)
  (case l26=>k_is)
  (case c26=>k_is)
  (case k26=>k_is)
  (case a27=>k_is)
  (case l27=>k_is)
  (case c27=>k_is)
  (case k27=>k_is)
  (case a28=>k_is)
  (case i28=>k_is)
  (case l28=>k_is)
  (case c28=>k_is)
  (case k28=>k_is)
  (case a29=>k_is)
  (case l29=>k_is)
  (case c29=>k_is)
  (case k29=>k_is)
  (case a30=>k_is)
  (case l30=>k_is)
  (case c30=>k_is)
  (case k30=>k_is)
  (case a31=>k_is)
  (case l31=>k_is)
  (case c31=>k_is)
  (case k31=>k_is)
  (case a32=>k_is)
  (case l32=>k_is)
  (case c32=>k_is)
  (case k32=>k_is)
  (case x0=>k_is)
  (case y0=>exact ⟨_,rfl⟩)
  (case x1=>k_is)
  (case y1=>exact ⟨_,rfl⟩)
  (case z0=>k_is)
  (case z1=>k_is)
  (case z2=>k_is)
  (case z3=>k_is)
  (case z4=>k_is)
  (case z5=>k_is)
  (case z6=>k_is)
  (case z7=>k_is)
  (case z8=>k_is)
  (case z9=>k_is)
#print axioms PySem.Challenge.cw_cardshop_k33_cards_printed_holds
