import PyProof.Rows.All
import Wide.All
import OpenK.AllK
import Wide.FinOn
import Lean
import PyProof.EqAt
import PyProof.EqKinds
import PyProof.TupleCall
import PyProof.StrLawsRepr
import PyProof.NeKinds
import KE.KEqDict
import KE.KDictOf
import KE.KPairComp
import PySem.Challenge.RW_cardshop_k15_senses
set_option Elab.async false
set_option linter.all false
set_option maxRecDepth 100000
set_option maxHeartbeats 4000000
namespace L2
open PySem PySem.Spec PyProof.Rows
noncomputable abbrev Fgg:=PySem.W.Frag
noncomputable abbrev Pnn:=List (Addr×Obj)
noncomputable abbrev Key:=Sum Int Str
noncomputable def keyIs:Key→Value→Bool
 | .inl k,v=>Value.isInt k v
 | .inr x,v=>Value.isStrOf x v
noncomputable def keyH (w:World):Key→Int
 | .inl k=>hashInt k
 | .inr x=>hashStr w x
theorem zG_:∀ {k:Key}{v:Value},keyIs k v=true→(∃ i t,k=Sum.inl i∧v=Value.int i t)∨(∃ x t,k=Sum.inr x∧v=Value.str x t)
 | .inl i,v,h=>by
  obtain ⟨t,e⟩:=Value.isInt_shape (k:=i) (v:=v) h
  exact .inl ⟨i,t,rfl,e⟩
 | .inr x,v,h=>by
  obtain ⟨t,e⟩:=Value.isStrOf_shape (x:=x) (v:=v) h
  exact .inr ⟨x,t,rfl,e⟩
theorem zeM_ (i:Int) (t:Tok):keyIs (.inl i) (.int i t)=true:=by simp [keyIs,Value.isInt]
theorem zfb_ (x:Str) (t:Tok):keyIs (.inr x) (.str x t)=true:=by simp [keyIs,Value.isStrOf]
theorem zjf_ (a b:Int):decide ((Sum.inl a:Key)=Sum.inl b)=(a == b):=by
 by_cases e:a=b
 ·subst e; simp
 ·have h:¬ (Sum.inl a:Key)=Sum.inl b:=fun q=>e (Sum.inl.inj q)
  rw [decide_eq_false h]
  exact (beq_eq_false_iff_ne.mpr e).symm
theorem zjc_ (a b:Str):decide ((Sum.inr a:Key)=Sum.inr b)=decide (a=b):=by
 by_cases e:a=b
 ·subst e; simp
 ·have h:¬ (Sum.inr a:Key)=Sum.inr b:=fun q=>e (Sum.inr.inj q)
  rw [decide_eq_false h,decide_eq_false e]
theorem zi8_ (a:Int) (b:Str):decide ((Sum.inl a:Key)=Sum.inr b)=false:=decide_eq_false (fun q=>nomatch q)
theorem zi1_ (a:Str) (b:Int):decide ((Sum.inr a:Key)=Sum.inl b)=false:=decide_eq_false (fun q=>nomatch q)
noncomputable def mixKind (prog:Program) (w:World):PySem.KeyKind prog w Key where
 is:=keyIs
 hash:=keyH w
 inj:=fun v a b ha hb=>by
  rcases zG_ ha with ⟨i,t,rfl,rfl⟩ | ⟨x,t,rfl,rfl⟩
  ·rcases zG_ hb with ⟨j,u,rfl,e⟩ | ⟨y,u,rfl,e⟩
   ·injection e with e1 _; rw [e1]
   ·exact nomatch e
  ·rcases zG_ hb with ⟨j,u,rfl,e⟩ | ⟨y,u,rfl,e⟩
   ·exact nomatch e
   ·injection e with e1 _; rw [e1]
 byValue:=fun k v h=>by
  rcases zG_ h with ⟨i,t,rfl,rfl⟩ | ⟨x,t,rfl,rfl⟩<;>rfl
 pyHash:=fun hv h=>by
  rcases zG_ hv with ⟨i,t,rfl,rfl⟩ | ⟨x,t,rfl,rfl⟩
  ·exact wpAny_pyHash_int h
  ·exact wpAny_pyHash_str h
 eqBool:=fun hu hv h=>by
  rcases zG_ hu with ⟨i,t,rfl,rfl⟩ | ⟨x,t,rfl,rfl⟩
  ·rcases zG_ hv with ⟨j,u,rfl,rfl⟩ | ⟨y,u,rfl,rfl⟩
   ·rw [zjf_] at h; exact wpAny_eqBool_int h
   ·rw [zi8_] at h; exact SeqAt.EqAt.int_str i t y u _ _ _ _ h
  ·rcases zG_ hv with ⟨j,u,rfl,rfl⟩ | ⟨y,u,rfl,rfl⟩
   ·rw [zi1_] at h; exact SeqAt.EqAt.str_int x t j u _ _ _ _ h
   ·rw [zjc_] at h; exact wpAny_eqBool_str h
 «strs»:=fun k x t v h=>by
  rcases zG_ h with ⟨i,u,rfl,e⟩ | ⟨y,u,rfl,e⟩
  ·exact nomatch e
  ·injection e with e1 _
   subst e1
   cases v<;>rfl
theorem zdq_ (prog:Program) (w:World) (i:Int) (t:Tok):(mixKind prog w).is (.inl i) (.int i t)=true:=zeM_ i t
theorem zdx_ (prog:Program) (w:World) (x:Str) (t:Tok):(mixKind prog w).is (.inr x) (.str x t)=true:=zfb_ x t
end L2
namespace L2
open PySem PySem.Spec PyProof.Rows
inductive V where
 | non | bl (b:Bool) | int (i:Int) | str (x:Str) | byt (b:Array UInt8) | flt (b:UInt64) | ref (a:Addr) | ty (n:String)
 deriving DecidableEq
noncomputable def RelV:V→Value→Prop
 | .non,u=>u=Value.none
 | .bl b,u=>u=Value.bool b
 | .int i,u=>∃ t,u=Value.int i t
 | .str x,u=>∃ t,u=Value.str x t
 | .byt b,u=>∃ t,u=Value.bytes b t
 | .flt b,u=>∃ t,u=Value.float b t
 | .ref a,u=>u=Value.ref a
 | .ty n,u=>u=Value.type n
noncomputable abbrev Vals:List V→List Value→Prop:=Paired RelV
theorem Vals.length {xs:List V}{us:List Value}(r:Vals xs us):xs.length=us.length:=Paired.length r
theorem Vals.get:∀ {xs:List V}{us:List Value}{i:Nat}{x:V},Vals xs us→xs[i]?=some x→∃ u,us[i]?=some u∧RelV x u
 | _,_,_,_,.nil,e=>by simp at e
 | _,_,0,_,.cons r _,e=>by simp at e; subst e; exact ⟨_,rfl,r⟩
 | _,_,i+1,x,.cons _ t,e=>by
  obtain ⟨u,h1,h2⟩:=Vals.get (i:=i) (x:=x) t (by simpa using e)
  exact ⟨u,by simpa using h1,h2⟩
theorem Vals.append:∀ {xs ys:List V}{us ws:List Value},Vals xs us→Vals ys ws→Vals (xs++ys) (us++ws)
 | _,_,_,_,.nil,s=>s
 | _,_,_,_,.cons r t,s=>.cons r (Vals.append t s)
theorem Vals.take:∀ {xs:List V}{us:List Value}(n:Nat),Vals xs us→Vals (xs.take n) (us.take n)
 | _,_,0,_=>.nil
 | _,_,_+1,.nil=>.nil
 | _,_,n+1,.cons r t=>.cons r (Vals.take n t)
theorem Vals.drop:∀ {xs:List V}{us:List Value}(n:Nat),Vals xs us→Vals (xs.drop n) (us.drop n)
 | _,_,0,r=>r
 | _,_,_+1,.nil=>.nil
 | _,_,n+1,.cons _ t=>Vals.drop n t
noncomputable def RelO:Option V→Option Value→Prop
 | some v,some u=>RelV v u
 | none,none=>True
 | _,_=>False
noncomputable def KV {κ:Type}:List (κ×V)→List (κ×Value)→Prop:=Paired fun (p:κ×V) (q:κ×Value)=>p.1=q.1∧RelV p.2 q.2
noncomputable def kV:Key→V
 | .inl i=>.int i
 | .inr x=>.str x
inductive HO where
 | lst (xs:List V)
 | tup (xs:List V)
 | dK (kvs:List (Key×V)) | dT (kvs:List (List Key×V))
 | set (S:Int→Bool) (n:Nat)
 | ins (C dx:Addr) (fs:List (Str×V))
 | own (x:Addr)
 | xd (fs:List (Str×V))
 | met (f x:Addr)
 | rng (lo hi:Int)
 | frz (o:Obj) (u:HO)
 | tbl (ps:Array Value)
 | ext (φ:Heap→Prop)
noncomputable abbrev Hp:=Addr→Option HO
noncomputable def upd (H:Hp) (a:Addr) (o:HO):Hp:=fun b=>if b=a then some o else H b
theorem zL_ {H:Hp}{a:Addr}{o:HO}:upd H a o a=some o:=by unfold upd; rw [if_pos rfl]
theorem zv_ {H:Hp}{a b:Addr}{o:HO}(h:b≠a):upd H a o b=H b:=by unfold upd; rw [if_neg h]
theorem ne_of {H:Hp}{a b:Addr}{o u:HO}(h:H a=some o) (h':H b=some u) (d:o≠u):a≠b:=by
 intro e; subst e; rw [h] at h'; exact d (Option.some.inj h')
theorem zam_ {H:Hp}{a b:Addr}{o:HO}(h:H a=some o) (h':H b=none):a≠b:=by
 intro e; subst e; rw [h] at h'; cases h'
section
variable (P:Program) (w:World)
noncomputable def ObjOk (H:Hp) (h:Heap) (a:Addr):HO→Prop
 | .lst xs=>xs.length≤sizeLine∧∃ (its:List Value) (n:Nat),Vals xs its∧h.get? a=some { cls:=.type "list",data:=.seq its.toArray n }
 | .tup xs=>xs.length≤sizeLine∧∃ its:List Value,Vals xs its∧IsTup h a its.toArray
 | .dK kvs=>kvs.length≤sizeLine∧(a == sysModules)=false∧∃ vs,KV kvs vs∧h.DictOf (mixKind P w) a vs
 | .dT kvs=>kvs.length≤sizeLine∧(a == sysModules)=false∧∃ xs:List (List Key×Addr×Value),
   Paired (fun (p:List Key×V) (q:List Key×Addr×Value)=>p.1=q.1∧H q.2.1=some (.tup (p.1.map kV))∧RelV p.2 q.2.2) kvs xs ∧
   ∃ o es ep,h.get? a=some o∧o.ExactDict∧o.data=.dict es ep∧es.toList=xs.map (entryOfKey (tupleKind (mixKind P w)))∧(xs.map (·.1)).Nodup
 | .set S n=>h.SetOf (intKind P w) a S n
 | .ins C dx fs=>H dx=some (.own a)∧fs.length≤1000∧dx≠a∧h.get? a=some (PySem.W.instObj C dx) ∧
   ∃ mA,h.Ns1 dx mA∧(∀ f,RelO (fs.lookup f) (mA f))∧PySem.Within mA (fs.map (·.1))
 | .own _=>∃ o,h.get? a=some o
 | .xd fs=>∃ mA,h.Ns1 a mA∧∀ f,RelO (fs.lookup f) (mA f)
 | .rng lo hi=>∃ t u v,h.get? a=some { cls:=.type "range",data:=.fields #[.int lo t,.int hi u,.int 1 v] }
 | .frz o u=>h.get? a=some o∧ObjOk H h a u
 | .tbl ps=>h.get? a=some { cls:=.none,data:=.fields ps }
 | .met f x=>h.get? a=some (PySem.W.methodObj (.ref f) (.ref x))
 | .ext φ=>φ h∧(∃ o,h.get? a=some o)∧∀ h1 h2:Heap,φ h1→(∀ o,h1.get? a=some o→h2.get? a=some o)→φ h2
noncomputable def HOk (H:Hp) (h:Heap):Prop:=∀ a o,H a=some o→ObjOk P w H h a o
end
section
variable {P:Program}{w:World}{H H':Hp}{h h':Heap}{a:Addr}{o:HO}
theorem ObjOk.lt (x:ObjOk P w H h a o):a<h.objs.size:=by
 cases o with
 | lst xs=>obtain ⟨_,_,_,_,e⟩:=x; exact Heap.lt_size e
 | tup xs=>obtain ⟨_,_,_,p⟩:=x; exact p.lt
 | dK kvs=>obtain ⟨_,_,_,_,o,_,_,e,_⟩:=x; exact Heap.lt_size e
 | dT kvs=>obtain ⟨_,_,_,_,o,_,_,e,_⟩:=x; exact Heap.lt_size e
 | set S n=>obtain ⟨o,_,_,_,e,_⟩:=x; exact Heap.lt_size e
 | ins C dx fs=>obtain ⟨_,_,_,e,_⟩:=x; exact Heap.lt_size e
 | own y=>obtain ⟨_,e⟩:=x; exact Heap.lt_size e
 | xd fs=>obtain ⟨_,⟨_,_,_,e,_⟩,_⟩:=x; exact Heap.lt_size e
 | rng lo hi=>obtain ⟨_,_,_,e⟩:=x; exact Heap.lt_size e
 | frz ob u=>obtain ⟨e,_⟩:=x; exact Heap.lt_size e
 | tbl ps=>exact Heap.lt_size (show h.get? a=some _ from x)
 | met f y=>exact Heap.lt_size (show h.get? a=some _ from x)
 | ext φ=>obtain ⟨_,⟨_,e⟩,_⟩:=x; exact Heap.lt_size e
theorem Paired.mapP {α β:Type}{F G:α→β→Prop}:∀ {l₁:List α}{l₂:List β},Paired F l₁ l₂→(∀ a b,F a b→G a b)→Paired G l₁ l₂
 | _,_,.nil,_=>.nil
 | _,_,.cons r t,f=>.cons (f _ _ r) (Paired.mapP t f)
theorem ObjOk.stay (x:ObjOk P w H h a o) (k:∀ b u,(b=a∨H b=some (.own a))→h.get? b=some u→h'.get? b=some u)
  (ho:∀ b,H b=some (.own a)→H' b=some (.own a)) (ht:∀ b xs,H b=some (.tup xs)→H' b=some (.tup xs)):ObjOk P w H' h' a o:=by
 induction o with
 | lst xs=>obtain ⟨z,its,n,r,e⟩:=x; exact ⟨z,its,n,r,k _ _ (.inl rfl) e⟩
 | tup xs=>obtain ⟨z,its,r,ob,e,c⟩:=x; exact ⟨z,its,r,ob,k _ _ (.inl rfl) e,c⟩
 | dK kvs=>obtain ⟨z,y,vs,r,ob,es,ep,e,c⟩:=x; exact ⟨z,y,vs,r,ob,es,ep,k _ _ (.inl rfl) e,c⟩
 | dT kvs =>
  obtain ⟨z,y,xs,r,ob,es,ep,e,c⟩:=x
  exact ⟨z,y,xs,Paired.mapP r fun p q z=>⟨z.1,ht _ _ z.2.1,z.2.2⟩,ob,es,ep,k _ _ (.inl rfl) e,c⟩
 | set S n=>obtain ⟨ob,es,ep,t,e,c⟩:=x; exact ⟨ob,es,ep,t,k _ _ (.inl rfl) e,c⟩
 | ins C dx fs =>
  obtain ⟨d,z,ne,e,mA,⟨od,es,ep,e2,c⟩,r⟩:=x
  exact ⟨ho _ d,z,ne,k _ _ (.inl rfl) e,mA,⟨od,es,ep,k _ _ (.inr d) e2,c⟩,r⟩
 | own y=>obtain ⟨ob,e⟩:=x; exact ⟨ob,k _ _ (.inl rfl) e⟩
 | xd fs=>obtain ⟨mA,⟨od,es,ep,e,c⟩,r⟩:=x; exact ⟨mA,⟨od,es,ep,k _ _ (.inl rfl) e,c⟩,r⟩
 | rng lo hi=>obtain ⟨t,u,v,e⟩:=x; exact ⟨t,u,v,k _ _ (.inl rfl) e⟩
 | frz ob u ih=>obtain ⟨e,q⟩:=x; exact ⟨k _ _ (.inl rfl) e,ih q⟩
 | tbl ps =>
  have e:h.get? a=some { cls:=.none,data:=.fields ps }:=x
  show h'.get? a=some { cls:=.none,data:=.fields ps }
  exact k a _ (.inl rfl) e
 | met f y =>
  have e:h.get? a=some (PySem.W.methodObj (.ref f) (.ref y)):=x
  show h'.get? a=some (PySem.W.methodObj (.ref f) (.ref y))
  exact k a _ (.inl rfl) e
 | ext φ=>obtain ⟨p,⟨o,e⟩,st⟩:=x; exact ⟨st _ _ p fun o q=>k _ _ (.inl rfl) q,⟨o,k _ _ (.inl rfl) e⟩,st⟩
theorem HOk.lt (x:HOk P w H h) (e:H a=some o):a<h.objs.size:=(x a o e).lt
theorem HOk.fresh (x:HOk P w H h) (e:h.objs.size≤a):H a=none:=by
 cases q:H a with
 | none=>rfl
 | some u=>exact absurd (Nat.lt_of_lt_of_le (x.lt q) e) (Nat.lt_irrefl _)
theorem HOk.kept (x:HOk P w H h) (k:∀ b u,h.get? b=some u→h'.get? b=some u):HOk P w H h':=fun a o e =>
 (x a o e).stay (fun b u _ q=>k b u q) (fun _ q=>q) fun _ _ q=>q
theorem HOk.laid (x:HOk P w H h) (k:∀ b u,h.get? b=some u→h'.get? b=some u) (hp:h.objs.size≤a) (new:ObjOk P w (upd H a o) h' a o):HOk P w (upd H a o) h':=fun b u e=>by
 have hn:=x.fresh hp
 by_cases hb:b=a
 ·subst hb; rw [zL_] at e; cases e; exact new
 ·rw [zv_ hb] at e
  exact (x b u e).stay (fun c v _ q=>k c v q) (fun c q=>by rw [zv_ (zam_ q hn)]; exact q) fun c xs q=>by rw [zv_ (zam_ q hn)]; exact q
end
noncomputable def Rd (H:Hp) (a:Addr) (u:HO):Prop:=H a=some u∨∃ o,H a=some (.frz o u)
theorem Rd.ok {P:Program}{w:World}{H:Hp}{h:Heap}{a:Addr}{u:HO}(r:Rd H a u) (x:HOk P w H h):ObjOk P w H h a u:=by
 rcases r with r | ⟨o,r⟩
 ·exact x a u r
 ·obtain ⟨_,q⟩:=x a _ r
  exact q
noncomputable def Mut:Option HO→Prop
 | some (.lst _)=>True
 | some (.dK _)=>True
 | some (.dT _)=>True
 | some (.set _ _)=>True
 | some (.ins _ _ _)=>True
 | some (.ext _)=>True
 | _=>False
section
variable {P:Program}{w:World}{H:Hp}{h h':Heap}{x e:Addr}{o':HO}
theorem HOk.write (ok:HOk P w H h) (mu:Mut (H x)) (he:e=x∨H e=some (.own x)) (k:∀ b u,b≠e→h.get? b=some u→h'.get? b=some u) (heo:∃ u,h'.get? e=some u)
  (new:ObjOk P w (upd H x o') h' x o'):HOk P w (upd H x o') h':=fun b u q=>by
 have nown:∀ c y,H c=some (.own y)→c≠x:=fun c y r z=>by subst z; rw [r] at mu; exact mu
 have ntup:∀ c xs,H c=some (.tup xs)→c≠x:=fun c xs r z=>by subst z; rw [r] at mu; exact mu
 by_cases hb:b=x
 ·subst hb; rw [zL_] at q; cases q; exact new
 ·rw [zv_ hb] at q
  by_cases hbe:b=e
  ·have q':H b=some (.own x):=by
    rcases he with z | z
    ·exact absurd (hbe.trans z) hb
    ·rw [hbe]; exact z
   rw [q] at q'; cases q'
   obtain ⟨v,hv⟩:=heo
   exact ⟨v,by rw [hbe]; exact hv⟩
  ·refine (ok b u q).stay (fun c v hc r=>k c v ?_ r) (fun c r=>by rw [zv_ (nown c b r)]; exact r) fun c xs r=>by rw [zv_ (ntup c xs r)]; exact r
   rcases hc with rfl | hc
   ·exact hbe
   ·rintro rfl
    rcases he with z | z
    ·exact nown c b hc z
    ·rw [hc] at z; cases z; exact hb rfl
end
structure Un (fs ex:List Addr) (H H':Hp) (h h':Heap):Prop where
 keep:∀ b o,h.get? b=some o→H b=none→b∉fs→b∉ex→h'.get? b=some o
 slot:∀ b o,h.get? b=some o→H b=none→b∈fs→b∉ex→∃ sl,h'.get? b=some { o with slots:=sl }
 free:∀ b o,h.get? b=some o→H b=none→b∉ex→H' b=none
 there:∀ b o,h.get? b=some o→b∉ex→∃ o',h'.get? b=some o'
 tups:∀ b xs,H b=some (.tup xs)→H' b=some (.tup xs)
 frzs:∀ b o u,H b=some (.frz o u)→H' b=some (.frz o u)
 tbls:∀ b ps,H b=some (.tbl ps)→∃ more,H' b=some (.tbl (ps++more))
section
variable {fs fs' ex ex':List Addr}{H H1 H2:Hp}{h h1 h2 h':Heap}{a x e:Addr}{o:HO}
theorem Un.any (u:Un fs ex H H1 h h1) {b:Addr}{ob:Obj}(q:h.get? b=some ob) (n:H b=none) (hx:b∉ex):∃ sl,h1.get? b=some { ob with slots:=sl }:=by
 by_cases hb:b∈fs
 ·exact u.slot b ob q n hb hx
 ·exact ⟨ob.slots,u.keep b ob q n hb hx⟩
theorem Un.kept (k:∀ b u,h.get? b=some u→h'.get? b=some u):Un fs ex H H h h' :=
 ⟨fun b ob q _ _ _=>k b ob q,fun b ob q _ _ _=>⟨ob.slots,k b ob q⟩,fun _ _ _ n _=>n,fun b ob q _=>⟨ob,k b ob q⟩,fun _ _ q=>q,fun _ _ _ q=>q,fun _ ps q=>⟨#[],by rw [q]; simp⟩⟩
theorem Un.refl:Un fs ex H H h h:=Un.kept fun _ _ q=>q
theorem Un.laid (k:∀ b u,h.get? b=some u→h'.get? b=some u) (hp:h.objs.size≤a) (hn:H a=none):Un fs ex H (upd H a o) h h' where
 keep:=fun b u q _ _ _=>k b u q
 slot:=fun b u q _ _ _=>⟨u.slots,k b u q⟩
 free:=fun b u q n _=>by rw [zv_ (Nat.ne_of_lt (Nat.lt_of_lt_of_le (Heap.lt_size q) hp))]; exact n
 there:=fun b u q _=>⟨u,k b u q⟩
 tups:=fun b xs q=>by rw [zv_ (zam_ q hn)]; exact q
 frzs:=fun b u xs q=>by rw [zv_ (zam_ q hn)]; exact q
 tbls:=fun b ps q=>⟨#[],by rw [zv_ (zam_ q hn),q]; simp⟩
theorem Un.write (mu:Mut (H x)) (he:e=x∨H e=some (.own x)) (k:∀ b u,b≠e→h.get? b=some u→h'.get? b=some u) (heo:∃ u,h'.get? e=some u):Un fs ex H (upd H x o) h h':=by
 have hx:∀ b,H b=none→b≠x:=fun b n z=>by subst z; rw [n] at mu; exact mu
 have hb:∀ b,H b=none→b≠e:=fun b n z=>by
  subst z
  rcases he with r | r
  ·exact hx b n r
  ·rw [n] at r; cases r
 have hm:∀ b u,H b=some u→¬ Mut (some u)→b≠x:=fun b u q nm z=>by subst z; rw [q] at mu; exact nm mu
 refine ⟨fun b u q n _ _=>k b u (hb b n) q,fun b u q n _ _=>⟨u.slots,k b u (hb b n) q⟩,fun b u q n _=>by rw [zv_ (hx b n)]; exact n,fun b u q _=>?_,
  fun b xs q=>by rw [zv_ (hm b _ q fun z=>z)]; exact q,fun b u xs q=>by rw [zv_ (hm b _ q fun z=>z)]; exact q,fun b ps q=>⟨#[],by rw [zv_ (hm b _ q fun z=>z),q]; simp⟩⟩
 by_cases hbe:b=e
 ·subst hbe; exact heo
 ·exact ⟨u,k b u hbe q⟩
end
noncomputable def trk (h:Heap) (H:Hp):List Addr:=(List.range h.objs.size).filter fun a=>(H a).isSome
noncomputable def hidT (h:Heap) (H:Hp):Heap:=PySem.W.hideAll h (trk h H)
theorem ze4_ (h:Heap) (H:Hp):(hidT h H).objs.size=h.objs.size:=PySem.W.hideAll_size _ _
theorem zgf_ {h:Heap}{H:Hp}{b:Addr}{o:Obj}(e:h.get? b=some o) (n:H b=none):(hidT h H).get? b=some o :=
 PySem.W.hideAll_get _ e fun hm=>by
  have q:(H b).isSome=true:=(List.mem_filter.mp hm).2
  rw [n] at q; simp at q
theorem zg6_ {h:Heap}{H:Hp}{b:Addr}{o:Obj}(e:(hidT h H).get? b=some o):h.get? b=some o∧H b=none:=by
 have e':h.get? b=some o:=PySem.W.of_hideAll (trk h H) e
 refine ⟨e',?_⟩
 cases q:H b with
 | none=>rfl
 | some x =>
  have hm:b∈trk h H:=List.mem_filter.mpr ⟨List.mem_range.mpr (Heap.lt_size e'),by simp [q]⟩
  have z:(hidT h H).get? b=none:=PySem.W.hideAll_none (trk h H) hm
  rw [z] at e; cases e
noncomputable def allNews (g h:Heap) (L:Addr):Pnn:=(List.range h.objs.size).filterMap fun a=>if a=L∨(g.get? a).isSome=true then none else (h.get? a).map fun o=>(a,o)
noncomputable def rest (g h:Heap) (L d:Addr):Pnn:=(allNews g h L).filter fun p=>decide (p.1≠d)
end L2
namespace L2
open PySem PySem.Spec PyProof.Rows
structure Mod (K:Fgg) (mg:Str→Option Value) (base:Heap):Prop where
 kin:K.In base
 glob:base.Ns mainGlobals mg
 blt:∃ mb,base.Ns builtinsNs mb∧∀ x:Str,x ≠ "__name__" → mb x=bootBuiltins x
 nolimit:base.NoLimit
structure Cx where
 prog:Program
 w:World
 K:Fgg
 mg:Str→Option Value
 base:Heap
 A:Around
 N:List Str
 s₀:Shared
 H₀:Hp
 env:Env
 outer:List Env
 stack:List Env
 ex:List Addr
 fn:Str→Bool
 calm:Bool
 pn:Pnn
 xe:Value→Shared→Prop
noncomputable def frs (l:List Env):List Addr:=l.filterMap (·.frame)
noncomputable abbrev Cx.fs (X:Cx):List Addr:=frs X.outer
noncomputable def Vis (sc:Scope) (x:Str):Prop:=sc.names.lookup x=some .local∨sc.names.lookup x=some .cell∨sc.names.lookup x=some .free
noncomputable def Loc (sc:Scope) (x:Str):Prop:=sc.names.lookup x=some .local∨sc.names.lookup x=some .cell
noncomputable def Look (env:Env) (h:Heap) (m:Str→Option Value) (x:Str) (u:Value):Prop :=
 (env.kindOf x=some .local∧m x=some u)∨((env.kindOf x=some .cell∨env.kindOf x=some .free)∧∃ c,env.cells.lookup x=some c∧h.IsCell c (some u))
structure Cx.Ok (X:Cx):Prop where
 mod:Mod X.K X.mg X.base
 kind:X.env.scope.kind=.function
 glob:X.env.globals=mainGlobals
 blt:X.env.builtins=builtinsNs
 above:X.s₀.heap.objs.size≤X.env.locals
 inj:∀ x y c,X.env.cells.lookup x=some c→X.env.cells.lookup y=some c→x=y
 has:∀ x,(X.env.kindOf x=some .cell∨X.env.kindOf x=some .free)→∃ c,X.env.cells.lookup x=some c
 cab:∀ x c,X.fn x=true→X.env.cells.lookup x=some c→X.s₀.heap.objs.size≤c
 hd:X.calm=true→X.A.handled=none
 frames:X.A.frames=some X.stack
 stk:X.stack=X.outer∨(X.stack=X.env::X.outer∧X.env.frame=some X.env.locals)
 exf:∀ b∈X.ex,b≠X.env.locals∧∀ x c,X.env.cells.lookup x=some c→c≠b
 bs:∀ b o,X.base.get? b=some o→X.s₀.heap.get? b=some o∧X.H₀ b=none
 bsz:X.base.objs.size≤X.s₀.heap.objs.size
 noex:∀ b o,X.base.get? b=some o→b∉X.ex
 exfs:∀ b∈X.ex,b∉X.fs
 funs:X.s₀.heap.FunFrames X.base X.outer
 frf:∀ b∈X.fs,X.H₀ b=none
structure Inv (X:Cx) (pins:Pnn) (σ:List (Option V)) (H:Hp) (s:Shared):Prop where
 ok:X.Ok
 os:s.os=X.s₀.os
 bare:AllBare s.gens
 base:Un X.fs X.ex X.H₀ H X.s₀.heap s.heap
 loc:∃ m,s.heap.Ns X.env.locals m∧∀ (i:Nat) (x:Str) (v:V),X.N[i]?=some x→σ[i]?=some (some v)→Vis X.env.scope x→∃ u,RelV v u∧Look X.env s.heap m x u
 cell:∀ x c,X.env.cells.lookup x=some c→∃ v,s.heap.IsCell c v
 free:H X.env.locals=none
 freeC:∀ x c,X.env.cells.lookup x=some c→H c=none
 pin:∀ p∈X.pn++pins,s.heap.get? p.1=some p.2∧H p.1=none∧p.1≠X.env.locals∧p.1∉X.fs∧∀ v,p.2.data≠.cell v
 hok:HOk X.prog X.w H s.heap
 len:σ.length=X.N.length
section
variable {X:Cx}{pins:Pnn}{σ:List (Option V)}{H H':Hp}{s:Shared}{h':Heap}
theorem Cx.Ok.nofr (ok:X.Ok) {b:Addr}{o:Obj}(e:X.base.get? b=some o):b∉X.fs:=fun hb=>by
 have:=(ok.funs.mem hb).1
 rw [e] at this; cases this
theorem Inv.bs (I:Inv X pins σ H s):∀ b o,X.base.get? b=some o→s.heap.get? b=some o∧H b=none:=fun b o e =>
 ⟨I.base.keep b o (I.ok.bs b o e).1 (I.ok.bs b o e).2 (I.ok.nofr e) (I.ok.noex b o e),I.base.free b o (I.ok.bs b o e).1 (I.ok.bs b o e).2 (I.ok.noex b o e)⟩
theorem Inv.bk (I:Inv X pins σ H s):∀ b o,X.base.get? b=some o→s.heap.get? b=some o:=fun b o e=>(I.bs b o e).1
theorem Inv.mod (I:Inv X pins σ H s):Mod X.K X.mg X.base:=I.ok.mod
theorem Inv.kIn (I:Inv X pins σ H s):X.K.In s.heap:=I.ok.mod.kin.keeps I.bk
theorem Inv.lt (I:Inv X pins σ H s):X.env.locals<s.heap.objs.size:=let ⟨_,hn,_⟩:=I.loc; hn.lt
theorem Inv.sz (I:Inv X pins σ H s):X.s₀.heap.objs.size≤s.heap.objs.size:=Nat.le_trans I.ok.above (Nat.le_of_lt I.lt)
theorem Inv.nofs (I:Inv X pins σ H s) {a:Addr}(h:s.heap.objs.size≤a):a∉X.fs:=fun hb=>by
 obtain ⟨_,o,ho,_⟩:=I.ok.funs.mem hb
 exact absurd (Nat.lt_of_lt_of_le (Heap.lt_size ho) (Nat.le_trans I.sz h)) (Nat.lt_irrefl _)
theorem Inv.cne (I:Inv X pins σ H s):∀ x c,X.env.cells.lookup x=some c→c≠X.env.locals:=fun x c e z=>by
 obtain ⟨v,o,ho,hd⟩:=I.cell x c e
 obtain ⟨m,⟨o',es,ep,ho',hd',_⟩,_⟩:=I.loc
 rw [z,ho'] at ho; cases ho; rw [hd'] at hd; cases hd
theorem Inv.funs (I:Inv X pins σ H s):s.heap.FunFrames X.base X.outer:=by
 have all:∀ (l:List Env),(∀ b∈frs l,b∈X.fs)→X.s₀.heap.FunFrames X.base l→s.heap.FunFrames X.base l:=by
  intro l
  induction l with
  | nil=>intro _ _; trivial
  | cons env r ih =>
   intro hs hl
   obtain ⟨hk,⟨L,o,hf,hn,ho,hd⟩,hr⟩:=hl
   have hL:L∈X.fs:=hs L (by unfold frs; rw [List.filterMap_cons,hf]; exact List.mem_cons_self)
   obtain ⟨sl,e⟩:=I.base.slot L o ho (I.ok.frf L hL) hL fun z=>I.ok.exfs L z hL
   exact ⟨hk,⟨L,_,hf,hn,e,hd⟩,ih (fun b hb=>hs b (by unfold frs; rw [List.filterMap_cons,hf]; exact List.mem_cons_of_mem _ hb)) hr⟩
 exact all X.outer (fun _ hb=>hb) I.ok.funs
theorem Inv.stack (I:Inv X pins σ H s):s.heap.FunFrames X.base X.stack:=by
 rcases I.ok.stk with e | ⟨e,hf⟩
 ·rw [e]; exact I.funs
 ·rw [e]
  obtain ⟨m,hn,_⟩:=I.loc
  refine .cons (by rw [I.ok.kind]; decide) hf hn ?_ I.funs
  exact Heap.get?_none_of_le (Nat.le_trans I.ok.bsz I.ok.above)
theorem Inv.stkSub (I:Inv X pins σ H s):∀ b∈frs X.stack,b∈X.env.locals::X.fs:=fun b hb=>by
 rcases I.ok.stk with e | ⟨e,hf⟩
 ·rw [e] at hb; exact List.mem_cons_of_mem _ hb
 ·rw [e] at hb
  unfold frs at hb
  rw [List.filterMap_cons,hf] at hb
  exact hb
theorem Inv.stkFree (I:Inv X pins σ H s):∀ b∈frs X.stack,H b=none:=fun b hb=>by
 rcases List.mem_cons.mp (I.stkSub b hb) with e | hb
 ·rw [e]; exact I.free
 ·obtain ⟨_,o,ho,_⟩:=I.ok.funs.mem hb
  exact I.base.free b o ho (I.ok.frf b hb) fun z=>I.ok.exfs b z hb
theorem Inv.step {g':Array GenState}{t':Nat}{d':Drawn}{ch:List Addr}(I:Inv X pins σ H s)
  (hch:∀ b∈ch,(b∈X.ex∨X.s₀.heap.objs.size≤b)∧b≠X.env.locals∧(∀ x c,X.env.cells.lookup x=some c→c≠b)∧∀ p∈X.pn++pins,p.1≠b)
  (keep:∀ b o,b≠X.env.locals→b∉X.fs→b∉ch→s.heap.get? b=some o→H b=none→h'.get? b=some o)
  (slot:∀ b o,b≠X.env.locals→b∈X.fs→b∉ch→s.heap.get? b=some o→H b=none→∃ sl,h'.get? b=some { o with slots:=sl }) (free:∀ b o,b∉ch→s.heap.get? b=some o→H b=none→H' b=none)
  (there:∀ b o,b∉ch→s.heap.get? b=some o→∃ o',h'.get? b=some o')
  (tups:∀ b xs,H b=some (.tup xs)→H' b=some (.tup xs)) (frzs:∀ b o u,H b=some (.frz o u)→H' b=some (.frz o u)) (tbls:∀ b ps,H b=some (.tbl ps)→∃ more,H' b=some (.tbl (ps++more)))
  (ns:∀ m,s.heap.Ns X.env.locals m→h'.Ns X.env.locals m) (hok:HOk X.prog X.w H' h') (hg:AllBare g') :
  Inv X pins σ H' { s with heap:=h',gens:=g',drawn:=d',toks:=t' }:=by
 have neL:∀ b o,X.s₀.heap.get? b=some o→b≠X.env.locals:=fun b o e=>Nat.ne_of_lt (Nat.lt_of_lt_of_le (Heap.lt_size e) I.ok.above)
 have neC:∀ b o,X.s₀.heap.get? b=some o→b∉X.ex→b∉ch:=fun b o e hx hb=>by
  rcases (hch b hb).1 with z | z
  ·exact hx z
  ·exact absurd (Nat.lt_of_lt_of_le (Heap.lt_size e) z) (Nat.lt_irrefl _)
 have cellK:∀ x c,X.env.cells.lookup x=some c→∀ v,s.heap.IsCell c v→h'.IsCell c v:=fun x c e v ⟨o,ho,hd⟩=>by
  have nch:c∉ch:=fun z=>(hch c z).2.2.1 x c e rfl
  by_cases hc:c∈X.fs
  ·obtain ⟨sl,q⟩:=slot c o (I.cne x c e) hc nch ho (I.freeC x c e)
   exact ⟨_,q,hd⟩
  ·exact ⟨o,keep c o (I.cne x c e) hc nch ho (I.freeC x c e),hd⟩
 refine ⟨I.ok,I.os,hg,⟨fun b o e n hb hx=>?_,fun b o e n hb hx=>?_,fun b o e n hx=>?_,fun b o e hx=>?_,fun b xs e=>tups b xs (I.base.tups b xs e),fun b o xs e=>frzs b o xs (I.base.frzs b o xs e),fun b ps e=>?_⟩,?_,fun x c e=>?_,?_,fun x c e=>?_,fun p hp=>?_,hok,I.len⟩
 ·exact keep b o (neL b o e) hb (neC b o e hx) (I.base.keep b o e n hb hx) (I.base.free b o e n hx)
 ·obtain ⟨sl,e1⟩:=I.base.slot b o e n hb hx
  obtain ⟨sl',e2⟩:=slot b _ (neL b o e) hb (neC b o e hx) e1 (I.base.free b o e n hx)
  exact ⟨sl',e2⟩
 ·obtain ⟨o',e1⟩:=I.base.there b o e hx
  exact free b o' (neC b o e hx) e1 (I.base.free b o e n hx)
 ·obtain ⟨o',e1⟩:=I.base.there b o e hx
  exact there b o' (neC b o e hx) e1
 ·obtain ⟨m1,e1⟩:=I.base.tbls b ps e
  obtain ⟨m2,e2⟩:=tbls b _ e1
  exact ⟨m1++m2,by rw [e2,Array.append_assoc]⟩
 ·obtain ⟨m,hn,hl⟩:=I.loc
  refine ⟨m,ns m hn,fun i x v e1 e2 e3=>?_⟩
  obtain ⟨u,r,l⟩:=hl i x v e1 e2 e3
  refine ⟨u,r,?_⟩
  rcases l with l | ⟨k,c,e,z⟩
  ·exact .inl l
  ·exact .inr ⟨k,c,e,cellK x c e _ z⟩
 ·obtain ⟨v,z⟩:=I.cell x c e
  exact ⟨v,cellK x c e v z⟩
 ·obtain ⟨m,⟨o,_,_,ho,_⟩,_⟩:=I.loc
  exact free _ o (fun z=>(hch _ z).2.1 rfl) ho I.free
 ·obtain ⟨v,o,ho,hd⟩:=I.cell x c e
  exact free c o (fun z=>(hch c z).2.2.1 x c e rfl) ho (I.freeC x c e)
 ·obtain ⟨e,n,ne,nf,d⟩:=I.pin p hp
  have nch:p.1∉ch:=fun z=>(hch p.1 z).2.2.2 p hp rfl
  exact ⟨keep p.1 p.2 ne nf nch e n,free p.1 p.2 nch e n,ne,nf,d⟩
theorem Inv.un {t':Nat}(I:Inv X pins σ H s) (u:Un X.fs [] H H' s.heap h') (hok:HOk X.prog X.w H' h'):Inv X pins σ H' { s with heap:=h',toks:=t' }:=by
 obtain ⟨m,⟨o,es,ep,ho,r⟩,_⟩:=id I.loc
 obtain ⟨sl,hL⟩:=u.any ho I.free (by simp)
 exact I.step (g':=s.gens) (d':=s.drawn) (ch:=[]) (fun _ z=>nomatch z) (fun b o _ hb _ e n=>u.keep b o e n hb (by simp)) (fun b o _ hb _ e n=>u.slot b o e n hb (by simp)) (fun b o _ e n=>u.free b o e n (by simp)) (fun b o _ e=>u.there b o e (by simp)) u.tups u.frzs u.tbls (fun m' hm=>by
  obtain ⟨o',es',ep',ho',r'⟩:=hm
  rw [ho] at ho'; cases ho'
  exact ⟨_,es',ep',hL,r'⟩) hok I.bare
theorem Inv.call {g':Array GenState}{t':Nat}{d':Drawn}{ch:List Addr}(I:Inv X pins σ H s) (u:Un (frs X.stack) ch H H' s.heap h') (hok:HOk X.prog X.w H' h') (hg:AllBare g')
  (hch:∀ b∈ch,(b∈X.ex∨X.s₀.heap.objs.size≤b)∧b≠X.env.locals∧(∀ x c,X.env.cells.lookup x=some c→c≠b)∧∀ p∈X.pn++pins,p.1≠b) :
  Inv X pins σ H' { s with heap:=h',gens:=g',drawn:=d',toks:=t' }:=by
 obtain ⟨m,⟨o,es,ep,ho,r⟩,_⟩:=id I.loc
 obtain ⟨sl,hL⟩:=u.any ho I.free fun z=>(hch _ z).2.1 rfl
 exact I.step (ch:=ch) hch (fun b o hL hb hc e n=>u.keep b o e n (fun z=>(List.mem_cons.mp (I.stkSub b z)).elim hL hb) hc) (fun b o _ _ hc e n=>u.any e n hc) (fun b o hc e n=>u.free b o e n hc) (fun b o hc e=>u.there b o e hc) u.tups u.frzs u.tbls (fun m' hm=>by
  obtain ⟨o',es',ep',ho',r'⟩:=hm
  rw [ho] at ho'; cases ho'
  exact ⟨_,es',ep',hL,r'⟩) hok hg
theorem Inv.turned {t':Nat}{it:Addr}(I:Inv X pins σ H s) (k:∀ b o,b≠it→s.heap.get? b=some o→h'.get? b=some o) (hn:H it=none) (hL:it≠X.env.locals)
  (h1:it∈X.ex∨X.s₀.heap.objs.size≤it) (h2:∀ x c,X.env.cells.lookup x=some c→c≠it) (h3:∀ p∈X.pn++pins,p.1≠it):Inv X pins σ H { s with heap:=h',toks:=t' }:=by
 have nit:∀ b u,H b=some u→b≠it:=fun b u e z=>by rw [z,hn] at e; cases e
 refine I.step (g':=s.gens) (d':=s.drawn) (ch:=[it]) (fun b hb=>?_) (fun b o _ _ hc e _=>k b o (fun z=>hc (by simp [z])) e) (fun b o _ _ hc e _=>⟨o.slots,k b o (fun z=>hc (by simp [z])) e⟩) (fun _ _ _ _ n=>n)
  (fun b o hc e=>⟨o,k b o (fun z=>hc (by simp [z])) e⟩) (fun _ _ e=>e) (fun _ _ _ e=>e) (fun b ps e=>⟨#[],by rw [e]; simp⟩) (fun m hm=>?_) (fun b u e=>?_) I.bare
 ·have e:b=it:=by simpa using hb
  subst e
  exact ⟨h1,hL,h2,h3⟩
 ·obtain ⟨o,es,ep,ho,r⟩:=hm
  exact ⟨o,es,ep,k _ o (Ne.symm hL) ho,r⟩
 ·refine (I.hok b u e).stay (fun c v hc q=>k c v ?_ q) (fun _ q=>q) fun _ _ q=>q
  rcases hc with z | z
  ·rw [z]; exact nit b u e
  ·exact nit c _ z
theorem Inv.tok (I:Inv X pins σ H s) (t:Nat):Inv X pins σ H { s with toks:=t }:=I.un (h':=s.heap) (t':=t) Un.refl I.hok
theorem Inv.kept {t':Nat}(I:Inv X pins σ H s) (k:∀ b u,s.heap.get? b=some u→h'.get? b=some u):Inv X pins σ H { s with heap:=h',toks:=t' }:=I.un (Un.kept k) (I.hok.kept k)
theorem Inv.laid {a:Addr}{o:HO}{t':Nat}(I:Inv X pins σ H s) (k:∀ b u,s.heap.get? b=some u→h'.get? b=some u) (hp:s.heap.objs.size≤a) (new:ObjOk X.prog X.w (upd H a o) h' a o) :
  Inv X pins σ (upd H a o) { s with heap:=h',toks:=t' }:=I.un (Un.laid k hp (I.hok.fresh hp)) (I.hok.laid k hp new)
theorem Inv.write {x e:Addr}{o:HO}{t':Nat}(I:Inv X pins σ H s) (mu:Mut (H x)) (he:e=x∨H e=some (.own x)) (k:∀ b u,b≠e→s.heap.get? b=some u→h'.get? b=some u) (heo:∃ u,h'.get? e=some u)
  (new:ObjOk X.prog X.w (upd H x o) h' x o):Inv X pins σ (upd H x o) { s with heap:=h',toks:=t' }:=I.un (Un.write mu he k heo) (I.hok.write mu he k heo new)
theorem Inv.pins_of {pins':Pnn}(I:Inv X pins σ H s) (h:∀ p∈pins',s.heap.get? p.1=some p.2∧H p.1=none∧p.1≠X.env.locals∧p.1∉X.fs∧∀ v,p.2.data≠.cell v):Inv X pins' σ H s :=
 ⟨I.ok,I.os,I.bare,I.base,I.loc,I.cell,I.free,I.freeC,fun p hp=>(List.mem_append.mp hp).elim (fun z=>I.pin p (List.mem_append_left _ z)) (h p),I.hok,I.len⟩
theorem zeg_ {N:List Str}(hN:N.Nodup) {i j:Nat}{x:Str}(a:N[i]?=some x) (b:N[j]?=some x):i=j:=by
 obtain ⟨h1,e1⟩:=List.getElem?_eq_some_iff.mp a
 obtain ⟨h2,e2⟩:=List.getElem?_eq_some_iff.mp b
 exact (List.getElem_inj hN).mp (e1.trans e2.symm)
theorem zeT_ {M:Model}{A:Around}{E:Value→Shared→Prop}{i:Nat}{x:Str}{v:V}{u:Value}{Q:Unit→Shared→Prop}(I:Inv X pins σ H s) (hN:X.N.Nodup) (hi:X.N[i]?=some x) (hx:Loc X.env.scope x) (r:RelV v u)
  (h:∀ s',Inv X pins (σ.set i (some v)) H s'→(∃ a,Heap.SameBut a s.heap s'.heap∧(a=X.env.locals∨X.env.cells.lookup x=some a))→Q () s') (hf:X.fn x=true∨X.env.scope.names.lookup x=some .local:=by first | exact .inl rfl | exact .inr rfl | assumption):wpAny M A (storeName X.env x u) Q E s:=by
 obtain ⟨m,hn,hl⟩:=id I.loc
 have hcls:(X.env.scope.kind == .class || (X.env.scope.kind == .module && X.env.locals != X.env.globals))=false:=by rw [I.ok.kind]; rfl
 have hiσ:i<σ.length:=by rw [I.len]; exact (List.getElem?_eq_some_iff.mp hi).1
 have cne:=I.cne
 have tracked:∀ {a:Addr}{h':Heap},(∃ o,s.heap.get? a=some o∧H a=none)→Heap.SameBut a s.heap h'→HOk X.prog X.w H h':=fun {a h'} ha hs b ob e=>by
  obtain ⟨_,_,hfree⟩:=ha
  refine (I.hok b ob e).stay (fun c w' hc q=>(hs.2 c ?_).trans q) (fun _ q=>q) fun _ _ q=>q
  rintro rfl
  rcases hc with rfl | hc
  ·rw [hfree] at e; cases e
  ·rw [hfree] at hc; cases hc
 rcases hx with hk | hk
 ·refine wpAny_storeName_local hk hn (fun h' hn' hs=>?_) hcls
  obtain ⟨oL,_,_,hoL,_⟩:=id hn
  refine h _ ⟨I.ok,I.os,I.bare,⟨fun b o e n hb hx=>?_,fun b o e n hb hx=>?_,I.base.free,fun b o e hx=>?_,I.base.tups,I.base.frzs,I.base.tbls⟩,⟨_,hn',fun j y v' e1 e2 e3=>?_⟩,fun y c e=>?_,I.free,I.freeC,fun p hp=>?_,tracked ⟨oL,hoL,I.free⟩ hs,by simpa using I.len⟩ ⟨_,hs,.inl rfl⟩
  ·exact (hs.2 b (Nat.ne_of_lt (Nat.lt_of_lt_of_le (Heap.lt_size e) I.ok.above))).trans (I.base.keep b o e n hb hx)
  ·obtain ⟨sl,e1⟩:=I.base.slot b o e n hb hx
   exact ⟨sl,(hs.2 b (Nat.ne_of_lt (Nat.lt_of_lt_of_le (Heap.lt_size e) I.ok.above))).trans e1⟩
  ·obtain ⟨o',e1⟩:=I.base.there b o e hx
   exact ⟨o',(hs.2 b (Nat.ne_of_lt (Nat.lt_of_lt_of_le (Heap.lt_size e) I.ok.above))).trans e1⟩
  ·by_cases hj:j=i
   ·subst hj
    rw [hi] at e1; cases e1
    rw [List.getElem?_set_self hiσ] at e2
    cases e2
    exact ⟨u,r,.inl ⟨hk,by simp⟩⟩
   ·rw [List.getElem?_set_ne (Ne.symm hj)] at e2
    obtain ⟨u',r',q⟩:=hl j y v' e1 e2 e3
    refine ⟨u',r',?_⟩
    rcases q with ⟨k,e⟩ | ⟨k,c,e,z⟩
    ·refine .inl ⟨k,?_⟩
     have:y≠x:=fun e=>hj (zeg_ hN e1 (e ▸ hi))
     simp [this,e]
    ·exact .inr ⟨k,c,e,z.sameBut hs (cne y c e)⟩
  ·obtain ⟨w',z⟩:=I.cell y c e
   exact ⟨w',z.sameBut hs (cne y c e)⟩
  ·obtain ⟨e,n,ne,nf,d⟩:=I.pin p hp
   exact ⟨(hs.2 p.1 ne).trans e,n,ne,nf,d⟩
 ·have hfn:X.fn x=true:=by
   rcases hf with z | z
   ·exact z
   ·rw [z] at hk; cases hk
  obtain ⟨c,hc⟩:=I.ok.has x (.inl hk)
  obtain ⟨w',z⟩:=I.cell x c hc
  refine wpAny_storeName_cell I.ok.kind hk hc z (fun h' hc' hs=>?_)
  obtain ⟨oc,hoc,hocd⟩:=id z
  refine h { s with heap:=h' } ⟨I.ok,I.os,I.bare,⟨fun b o e n hb hx=>?_,fun b o e n hb hx=>?_,I.base.free,fun b o e hx=>?_,I.base.tups,I.base.frzs,I.base.tbls⟩,⟨m,hn.sameBut hs (Ne.symm (cne x c hc)),fun j y v' e1 e2 e3=>?_⟩,fun y c' e=>?_,I.free,I.freeC,fun p hp=>?_,tracked ⟨oc,hoc,I.freeC x c hc⟩ hs,by simpa using I.len⟩ ⟨c,hs,.inr hc⟩
  ·exact (hs.2 b (Nat.ne_of_lt (Nat.lt_of_lt_of_le (Heap.lt_size e) (I.ok.cab x c hfn hc)))).trans (I.base.keep b o e n hb hx)
  ·obtain ⟨sl,e1⟩:=I.base.slot b o e n hb hx
   exact ⟨sl,(hs.2 b (Nat.ne_of_lt (Nat.lt_of_lt_of_le (Heap.lt_size e) (I.ok.cab x c hfn hc)))).trans e1⟩
  ·obtain ⟨o',e1⟩:=I.base.there b o e hx
   exact ⟨o',(hs.2 b (Nat.ne_of_lt (Nat.lt_of_lt_of_le (Heap.lt_size e) (I.ok.cab x c hfn hc)))).trans e1⟩
  ·by_cases hj:j=i
   ·subst hj
    rw [hi] at e1; cases e1
    rw [List.getElem?_set_self hiσ] at e2
    cases e2
    exact ⟨u,r,.inr ⟨.inl hk,c,hc,hc'⟩⟩
   ·rw [List.getElem?_set_ne (Ne.symm hj)] at e2
    obtain ⟨u',r',q⟩:=hl j y v' e1 e2 e3
    refine ⟨u',r',?_⟩
    rcases q with q | ⟨k,c',e,z'⟩
    ·exact .inl q
    ·refine .inr ⟨k,c',e,z'.sameBut hs ?_⟩
     rintro rfl
     exact hj (zeg_ hN e1 (I.ok.inj _ _ _ e hc ▸ hi))
  ·by_cases hcc:c'=c
   ·subst hcc; exact ⟨_,hc'⟩
   ·obtain ⟨w2,z2⟩:=I.cell y c' e
    exact ⟨w2,z2.sameBut hs hcc⟩
  ·obtain ⟨e,n,ne,nf,d⟩:=I.pin p hp
   refine ⟨(hs.2 p.1 ?_).trans e,n,ne,nf,d⟩
   intro q
   rw [q,hoc] at e
   have q':oc=p.2:=Option.some.inj e
   exact d w' (by rw [← q']; exact hocd)
theorem zdO_ {M:Model}{A:Around}{E:Value→Shared→Prop}{i:Nat}{x:Str}{v:V}{u:Value}{Q:Unit→Shared→Prop}(I:Inv X pins σ H s) (hN:X.N.Nodup) (hi:X.N[i]?=some x) (hx:Loc X.env.scope x) (r:RelV v u)
  (h:∀ s',Inv X pins (σ.set i (some v)) H s'→Q () s') (hf:X.fn x=true∨X.env.scope.names.lookup x=some .local:=by first | exact .inl rfl | exact .inr rfl | assumption):wpAny M A (storeName X.env x u) Q E s :=
 zeT_ I hN hi hx r (fun s' I' _=>h s' I') hf
end
noncomputable abbrev XK:=Value→Option Addr→Hp→Prop
noncomputable abbrev St:=List (Option V)
noncomputable abbrev VK:=V→Hp→Prop
noncomputable abbrev TE:=St→Hp→VK→Prop
noncomputable abbrev TT:=St→Hp→(Bool→Hp→Prop)→Prop
noncomputable abbrev TA:=St→Hp→(List V→Hp→Prop)→Prop
structure Ends where
 nx:St→Hp→Prop
 rt:VK
 bk:St→Hp→Prop:=fun _ _=>False
 ct:St→Hp→Prop:=fun _ _=>False
noncomputable abbrev TS:=Ends→St→Hp→Prop
noncomputable def EP (X:Cx) (pins:Pnn) (σ:St) (Q:VK) (u:Value) (s':Shared):Prop:=∃ v H',Inv X pins σ H' s'∧RelV v u∧Q v H'
noncomputable def TP (X:Cx) (pins:Pnn) (σ:St) (Q:Bool→Hp→Prop) (b:Bool) (s':Shared):Prop:=∃ H',Inv X pins σ H' s'∧Q b H'
noncomputable def AP (X:Cx) (pins:Pnn) (σ:St) (Q:List V→Hp→Prop) (us:List Value) (s':Shared):Prop:=∃ vs H',Inv X pins σ H' s'∧Vals vs us∧Q vs H'
noncomputable def SP (X:Cx) (pins:Pnn) (D:Ends) (f:Flow) (s':Shared):Prop :=
 match f with
 | .next=>∃ σ' H',Inv X pins σ' H' s'∧D.nx σ' H'
 | .brk=>∃ σ' H',Inv X pins σ' H' s'∧D.bk σ' H'
 | .cont=>∃ σ' H',Inv X pins σ' H' s'∧D.ct σ' H'
 | .ret u=>∃ v σ' H',Inv X pins σ' H' s'∧RelV v u∧D.rt v H'
noncomputable def PE (X:Cx) (e:Expr) (t:TE):Prop :=
 ∀ (pins:Pnn) (s:Shared) (σ:St) (H:Hp) (Q:VK),Inv X pins σ H s→t σ H Q→wpAny (model X.prog X.w) X.A (eval e X.env) (EP X pins σ Q) X.xe s
noncomputable def PT (X:Cx) (e:Expr) (t:TT):Prop :=
 ∀ (pins:Pnn) (s:Shared) (σ:St) (H:Hp) (Q:Bool→Hp→Prop),Inv X pins σ H s→t σ H Q→wpAny (model X.prog X.w) X.A (isTrue e X.env (eval e X.env)) (TP X pins σ Q) X.xe s
noncomputable def PW (X:Cx) (e:Expr) (t:TT):Prop :=
 ∀ (whole:Sem Value) (pins:Pnn) (s:Shared) (σ:St) (H:Hp) (Q:Bool→Hp→Prop),Inv X pins σ H s→t σ H Q→wpAny (model X.prog X.w) X.A (isTrue e X.env whole) (TP X pins σ Q) X.xe s
theorem PW.pt {X:Cx}{e:Expr}{t:TT}(h:PW X e t):PT X e t:=h _
noncomputable def PA (X:Cx) (es:List Expr) (t:TA):Prop :=
 ∀ (pos:Pos) (pins:Pnn) (s:Shared) (σ:St) (H:Hp) (Q:List V→Hp→Prop),Inv X pins σ H s→t σ H Q→wpAny (model X.prog X.w) X.A (spliced (backTo pos (starEach es X.env))) (AP X pins σ Q) X.xe s
noncomputable def PS (X:Cx) (st:Stmt) (t:TS):Prop :=
 ∀ (pins:Pnn) (s:Shared) (σ:St) (H:Hp) (D:Ends),Inv X pins σ H s→t D σ H→wpAny (model X.prog X.w) X.A (exec st X.env) (SP X pins D) X.xe s
noncomputable def PSs (X:Cx) (st:List Stmt) (t:TS):Prop :=
 ∀ (pins:Pnn) (s:Shared) (σ:St) (H:Hp) (D:Ends),Inv X pins σ H s→t D σ H→wpAny (model X.prog X.w) X.A (execs st X.env) (SP X pins D) X.xe s
theorem thn {α:Type}{t:Sem α}{Q Q':α→Shared→Prop}{M:Model}{A:Around}{E:Value→Shared→Prop}{s:Shared}(h:wpAny M A t Q E s) (hQ:∀ a s,Q a s→Q' a s):wpAny M A t Q' E s:=wpAny_mono h hQ fun _ _ x=>x
end L2
namespace L2
open PySem PySem.Spec PyProof.Rows
section
variable {X:Cx}
theorem bin {a b:Expr}{ta tb:TE}(ha:PE X a ta) (hb:PE X b tb) {pins:Pnn}{s:Shared}{σ:St}{H:Hp}{R:V→V→Hp→Prop}(I:Inv X pins σ H s) (h:ta σ H fun x H1=>tb σ H1 fun y H2=>R x y H2)
  {α:Type}{Q:α→Shared→Prop}{f:Value→Value→Sem α}
  (hf:∀ v u s2 x y H2,Inv X pins σ H2 s2→RelV x v→RelV y u→R x y H2→wpAny (model X.prog X.w) X.A (f v u) Q X.xe s2) :
  wpAny (model X.prog X.w) X.A (eval a X.env) (fun v s₁=>wpAny (model X.prog X.w) X.A (eval b X.env) (fun u s₂=>wpAny (model X.prog X.w) X.A (f v u) Q X.xe s₂) X.xe s₁) X.xe s:=by
 refine thn (ha pins s σ H _ I h) fun v s1 ⟨x,H1,I1,r1,q1⟩=>?_
 refine thn (hb pins s1 σ H1 _ I1 q1) fun u s2 ⟨y,H2,I2,r2,q2⟩=>?_
 exact hf v u s2 x y H2 I2 r1 r2 q2
noncomputable def tVar (i:Nat):TE:=fun σ H Q=>∃ v,σ[i]?=some (some v)∧Q v H
noncomputable def tC (v:V):TE:=fun _ H Q=>Q v H
theorem zi7_ {i:Nat}{x:Str}{pos:Pos}(hN:X.N[i]?=some x) (hv:Vis X.env.scope x) (hd:(x == ("__debug__" : Str))=false:=by decide) (hcd:(x == ("__classdict__" : Str))=false:=by decide):PE X (.Name x pos) (tVar i):=by
 intro pins s σ H Q I h
 obtain ⟨v,e,h⟩:=h
 obtain ⟨m,hn,hl⟩:=I.loc
 obtain ⟨u,r,l⟩:=hl i x v hN e hv
 have fin:EP X pins σ Q u s:=⟨v,H,I,r,h⟩
 rcases l with ⟨hk,hm⟩ | ⟨hk,c,hc,hcell⟩
 ·exact wpAny_Name (wpAny_loadName_local I.ok.kind hk hn hm fin) hd
 ·rcases hk with hk | hk
  ·exact wpAny_Name (wpAny_loadName_cell I.ok.kind hk hc hcell fin) hd
  ·exact wpAny_Name (wpAny_loadName_free I.ok.kind hk hc hcell fin hcd) hd
theorem ze_ {i j pos}:PE X (.Constant (.int i) j pos) (tC (.int i)):=fun _ _ _ H _ I h=>wpAny_Constant_int ⟨.int i,H,I.tok _,⟨_,rfl⟩,h⟩
theorem zeO_ {b j pos}:PE X (.Constant (.bool b) j pos) (tC (.bl b)):=fun _ _ _ H _ I h=>Constant_bool ⟨.bl b,H,I,rfl,h⟩
theorem zcQ_ {j pos}:PE X (.Constant .none j pos) (tC .non):=fun _ _ _ H _ I h=>Constant_none ⟨.non,H,I,rfl,h⟩
theorem ziv_ {x j pos}:PE X (.Constant (.str x) j pos) (tC (.str x)):=fun _ _ _ H _ I h=>Calls.Constant_str ⟨.str x,H,I.tok _,⟨_,rfl⟩,h⟩
noncomputable def Gl (X:Cx) (x:Str):Prop:=X.env.kindOf x=some .globalImplicit
theorem zgG_ {E:Value→Shared→Prop}{pins:Pnn}{s:Shared}{σ:St}{H:Hp}{x:Str}{u:Value}{pos:Pos}{Q:Value→Shared→Prop}(I:Inv X pins σ H s) (hg:Gl X x) (hm:X.mg x=some u) (h:Q u s)
  (hd:(x == ("__debug__" : Str))=false:=by decide):wpAny (model X.prog X.w) X.A (eval (.Name x pos) X.env) Q E s :=
 Calls.Name_function_global I.ok.kind hg (Calls.loadGlobal_global (by rw [I.ok.glob]; exact I.mod.glob.keeps I.bk) hm h) hd
theorem zef_ {E:Value→Shared→Prop}{pins:Pnn}{s:Shared}{σ:St}{H:Hp}{x:Str}{u:Value}{pos:Pos}{Q:Value→Shared→Prop}(I:Inv X pins σ H s) (hg:Gl X x) (hm:X.mg x=none) (hv:bootBuiltins x=some u) (h:Q u s)
  (hn:x ≠ "__name__" := by decide) (hd:(x == ("__debug__" : Str))=false:=by decide):wpAny (model X.prog X.w) X.A (eval (.Name x pos) X.env) Q E s:=by
 obtain ⟨mb,h1,h2⟩:=I.mod.blt
 exact Calls.Name_function_global I.ok.kind hg (Calls.loadGlobal_builtin (by rw [I.ok.glob]; exact I.mod.glob.keeps I.bk) hm (by rw [I.ok.blt]; exact h1.keeps I.bk) ((h2 x hn).trans hv) h) hd
theorem zgU_ {x:Str}{v:V}{u:Value}{pos:Pos}(hg:Gl X x) (hm:X.mg x=none) (hv:bootBuiltins x=some u) (r:RelV v u) (hn:x ≠ "__name__" := by decide) (hd:(x == ("__debug__" : Str))=false:=by decide):PE X (.Name x pos) (tC v) :=
 fun _ _ _ H _ I h=>zef_ I hg hm hv ⟨v,H,I,r,h⟩ hn hd
variable {a b:Expr}{ta tb:TE}{pos:Pos}
noncomputable def PC (X:Cx) (op:CmpOp) (a b:Expr) (t:TE):Prop :=
 ∀ (pins:Pnn) (s:Shared) (σ:St) (H:Hp) (Q:VK),Inv X pins σ H s→t σ H Q →
  wpAny (model X.prog X.w) X.A (eval a X.env) (fun v s₁=>wpAny (model X.prog X.w) X.A (eval b X.env) (fun u s₂=>wpAny (model X.prog X.w) X.A (compareOp op v u) (EP X pins σ Q) X.xe s₂) X.xe s₁) X.xe s
theorem nobehind (b:Expr) {op:CmpOp}(h:op≠.In) (h2:op≠.NotIn):behindInMarks op b=false:=by
 have e1:(op == CmpOp.In)=false:=by cases op<;>first | rfl | exact absurd rfl h
 have e2:(op == CmpOp.NotIn)=false:=by cases op<;>first | rfl | exact absurd rfl h2
 cases b<;>simp [behindInMarks,e1,e2]
variable {tA tB':TT}{rest:List Expr}
noncomputable def tNot (t:TT):TT:=fun σ H Q=>t σ H fun c H1=>Q (!c) H1
theorem zdi_ (ha:PT X a tA):PW X (.BoolOp .And [a] pos) tA:=by
 intro wh pins s σ H Q I h
 refine isTrue_and (thn (ha pins s σ H Q I h) fun c s1 e=>?_)
 cases c with
 | true=>exact isTrue_and_nil e
 | false=>exact e
theorem zcF_ (ha:PT X a tA):PW X (.BoolOp .Or [a] pos) tA:=by
 intro wh pins s σ H Q I h
 refine isTrue_or (thn (ha pins s σ H Q I h) fun c s1 e=>?_)
 cases c with
 | false=>exact isTrue_or_nil e
 | true=>exact e
theorem zbT_ (ha:PT X a tA):PT X (.UnaryOp .Not a pos) (tNot tA):=by
 intro pins s σ H Q I h
 exact isTrue_not (ha pins s σ H (fun c H1=>Q (!c) H1) I h)
theorem ziO_ {op} {t:TE}(h:PE X a t):PE X (.BoolOp op [a] pos) t:=fun pins s σ H Q I hw=>BoolOp_one (h pins s σ H Q I hw)
end
end L2
namespace L2
open PySem PySem.Spec PyProof.Rows
noncomputable def SqL (K:Fgg) (H:Hp) (a:Addr) (xs:List V):Prop :=
 Rd H a (.lst xs) ∨
  ∃ (o:Obj) (its:Array Value) (n:Nat),K.lookup a=some o∧o.cls=.type "list" ∧ o.dict=none∧o.data=.seq its n∧its.size≤sizeLine∧Vals xs its.toList
noncomputable def SqT (K:Fgg) (H:Hp) (a:Addr) (xs:List V):Prop :=
 Rd H a (.tup xs) ∨
  ∃ (o:Obj) (its:Array Value) (n:Nat),K.lookup a=some o∧o.cls=.type "tuple" ∧ o.data=.seq its n∧its.size≤sizeLine∧Vals xs its.toList
noncomputable def absV:Value→Option V
 | .none=>some .non
 | .bool b=>some (.bl b)
 | .int i _=>some (.int i)
 | .str x _=>some (.str x)
 | .bytes b _=>some (.byt b)
 | .float b _=>some (.flt b)
 | .ref a=>some (.ref a)
 | .type n=>some (.ty n)
 | _=>none
theorem RelV.abs {x:V}{u:Value}(r:RelV x u):absV u=some x:=by
 cases x with
 | non=>cases r; rfl
 | bl _=>cases r; rfl
 | int _=>obtain ⟨t,rfl⟩:=r; rfl
 | str _=>obtain ⟨t,rfl⟩:=r; rfl
 | byt _=>obtain ⟨t,rfl⟩:=r; rfl
 | flt _=>obtain ⟨t,rfl⟩:=r; rfl
 | ref _=>cases r; rfl
 | ty _=>cases r; rfl
theorem RelV.inj {x y:V}{u:Value}(r:RelV x u) (q:RelV y u):x=y:=Option.some.inj (r.abs.symm.trans q.abs)
theorem Vals.inj:∀ {xs ys:List V}{us:List Value},Vals xs us→Vals ys us→xs=ys
 | _,_,_,.nil,.nil=>rfl
 | _,_,_,.cons r t,.cons r' t'=>by rw [r.inj r',Vals.inj t t']
section
variable {X:Cx}{pins:Pnn}{σ:St}{H:Hp}{s:Shared}{a:Addr}{xs ys:List V}
theorem SqL.of {K:Fgg}(h:H a=some (.lst xs)):SqL K H a xs:=.inl (.inl h)
theorem SqT.of {K:Fgg}(h:H a=some (.tup xs)):SqT K H a xs:=.inl (.inl h)
theorem Inv.list (I:Inv X pins σ H s) (h:SqL X.K H a xs):∃ its:List Value,Vals xs its∧PlainL s.heap a its.toArray∧xs.length≤sizeLine:=by
 rcases h with h | ⟨o,its,n,hk,hc,hd,hs,hz,r⟩
 ·obtain ⟨z,its,n,r,e⟩:=h.ok I.hok
  exact ⟨its,r,⟨_,n,e,rfl,rfl,rfl⟩,z⟩
 ·refine ⟨its.toList,r,⟨o,n,I.kIn a o hk,hc,hd,by simpa using hs⟩,?_⟩
  have e:=r.length
  simp only [Array.length_toList] at e
  lia
theorem Inv.tuple (I:Inv X pins σ H s) (h:SqT X.K H a xs):∃ its:List Value,Vals xs its∧IsTup s.heap a its.toArray∧xs.length≤sizeLine:=by
 rcases h with h | ⟨o,its,n,hk,hc,hs,hz,r⟩
 ·obtain ⟨z,its,r,p⟩:=h.ok I.hok
  exact ⟨its,r,p,z⟩
 ·refine ⟨its.toList,r,⟨o,I.kIn a o hk,hc,n,by simpa using hs⟩,?_⟩
  have e:=r.length
  simp only [Array.length_toList] at e
  lia
theorem Inv.list_inj (I:Inv X pins σ H s) (h:SqL X.K H a xs) (h':SqL X.K H a ys):xs=ys:=by
 obtain ⟨its,r,⟨o,n,e,_,_,d⟩,_⟩:=I.list h
 obtain ⟨its',r',⟨o',n',e',_,_,d'⟩,_⟩:=I.list h'
 rw [e] at e'; cases e'
 rw [d] at d'
 injection d' with d1 _
 have:its=its':=by simpa using congrArg Array.toList d1
 subst this
 exact r.inj r'
theorem Inv.tuple_inj (I:Inv X pins σ H s) (h:SqT X.K H a xs) (h':SqT X.K H a ys):xs=ys:=by
 obtain ⟨its,r,⟨o,e,_,n,d⟩,_⟩:=I.tuple h
 obtain ⟨its',r',⟨o',e',_,n',d'⟩,_⟩:=I.tuple h'
 rw [e] at e'; cases e'
 rw [d] at d'
 injection d' with d1 _
 have:its=its':=by simpa using congrArg Array.toList d1
 subst this
 exact r.inj r'
end
noncomputable abbrev Cx.wish (X:Cx) (E:Value→Shared→Prop):Cx:={ X with xe:=E }
noncomputable abbrev Cx.nox (X:Cx):Cx:=X.wish fun _ _=>False
theorem Cx.Ok.wish {X:Cx}(ok:X.Ok) (E:Value→Shared→Prop):(X.wish E).Ok :=
 ⟨ok.mod,ok.kind,ok.glob,ok.blt,ok.above,ok.inj,ok.has,ok.cab,ok.hd,ok.frames,ok.stk,ok.exf,ok.bs,ok.bsz,ok.noex,ok.exfs,ok.funs,ok.frf⟩
theorem Cx.Ok.unwish {X:Cx}{E:Value→Shared→Prop}(ok:(X.wish E).Ok):X.Ok :=
 ⟨ok.mod,ok.kind,ok.glob,ok.blt,ok.above,ok.inj,ok.has,ok.cab,ok.hd,ok.frames,ok.stk,ok.exf,ok.bs,ok.bsz,ok.noex,ok.exfs,ok.funs,ok.frf⟩
section
variable {X:Cx}{pins:Pnn}{σ:St}{H:Hp}{s:Shared}{E:Value→Shared→Prop}
theorem Inv.wish (I:Inv X pins σ H s) (E:Value→Shared→Prop):Inv (X.wish E) pins σ H s:=⟨I.ok.wish E,I.os,I.bare,I.base,I.loc,I.cell,I.free,I.freeC,I.pin,I.hok,I.len⟩
theorem Inv.unwish (I:Inv (X.wish E) pins σ H s):Inv X pins σ H s:=⟨I.ok.unwish,I.os,I.bare,I.base,I.loc,I.cell,I.free,I.freeC,I.pin,I.hok,I.len⟩
theorem SP.unwish {D:Ends}{f:Flow}{s':Shared}(h:SP (X.wish E) pins D f s'):SP X pins D f s':=by
 cases f with
 | next=>obtain ⟨σ',H',I,q⟩:=h; exact ⟨σ',H',I.unwish,q⟩
 | brk=>obtain ⟨σ',H',I,q⟩:=h; exact ⟨σ',H',I.unwish,q⟩
 | cont=>obtain ⟨σ',H',I,q⟩:=h; exact ⟨σ',H',I.unwish,q⟩
 | ret u=>obtain ⟨v,σ',H',I,r,q⟩:=h; exact ⟨v,σ',H',I.unwish,r,q⟩
theorem PSs.nox {st:List Stmt}{t:TS}(h:PSs X.nox st t):PSs X st t:=fun pins s σ H D I hw =>
 wpAny_mono (h pins s σ H D (I.wish _) hw) (fun _ _ q=>q.unwish) fun _ _ z=>False.elim z
end
section
variable {X:Cx}{st:Stmt}{rest:List Stmt}{t u:TS}{e:Expr}{te:TE}{pos:Pos}
noncomputable def tNext:TS:=fun D σ H=>D.nx σ H
noncomputable def tSeq (t u:TS):TS:=fun D σ H=>t { D with nx:=u D } σ H
theorem zI_:PSs X [] tNext:=fun _ _ σ H _ I h=>wpAny_execs_nil ⟨σ,H,I,h⟩
theorem zd_ (h1:PS X st t) (h2:PSs X rest u):PSs X (st::rest) (tSeq t u):=by
 intro pins s σ H D I h
 refine wpAny_execs_cons (thn (h1 pins s σ H { D with nx:=u D } I h) fun f s1 q=>?_)
 cases f with
 | next =>
  obtain ⟨σ',H',I',q⟩:=q
  exact h2 pins s1 σ' H' D I' q
 | ret v=>exact q
 | brk=>exact q
 | cont=>exact q
theorem zf_ (h1:PS X st t):PSs X [st] t:=by
 intro pins s σ H D I h
 refine wpAny_execs_cons (thn (h1 pins s σ H D I h) fun f s1 q=>?_)
 cases f with
 | next=>exact wpAny_execs_nil q
 | ret v=>exact q
 | brk=>exact q
 | cont=>exact q
theorem Inv.quiet {pins:Pnn}{σ:St}{H:Hp}{s:Shared}(I:Inv X pins σ H s):interactive X.env=false:=by simp [interactive,I.ok.kind]
noncomputable def tDrop (te:TE):TS:=fun D σ H=>te σ H fun _ H1=>D.nx σ H1
theorem zcc_ (he:PE X e te) (hs:swapsWith e none pos.line X.env=pure false:=by rfl):PS X (.Expr e pos) (tDrop te):=by
 intro pins s σ H D I h
 exact wpAny_Expr_any (thn (he pins s σ H _ I h) fun v s1 ⟨x,H1,I1,r1,q1⟩=>⟨σ,H1,I1,q1⟩) I.quiet hs
noncomputable def tRet (te:TE):TS:=fun D σ H=>te σ H D.rt
theorem z4_ (he:PE X e te):PS X (.Return (some e) pos) (tRet te):=by
 intro pins s σ H D I h
 exact wpAny_Return_some (thn (he pins s σ H _ I h) fun v s1 ⟨x,H1,I1,r1,q1⟩=>⟨x,σ,H1,I1,r1,q1⟩)
end
noncomputable abbrev TG:=V→St→Hp→(St→Hp→Prop)→Prop
noncomputable abbrev TGs:=List V→St→Hp→(St→Hp→Prop)→Prop
noncomputable def PG (X:Cx) (target:Expr) (t:TG):Prop :=
 ∀ (pins:Pnn) (s:Shared) (σ:St) (H:Hp) (v:V) (u:Value) (Q:St→Hp→Prop),Inv X pins σ H s→RelV v u→t v σ H Q →
  wpAny (model X.prog X.w) X.A (assign target X.env u) (fun _ s'=>∃ σ' H',Inv X pins σ' H' s'∧Q σ' H') X.xe s
noncomputable def PGs (X:Cx) (ts:List Expr) (t:TGs):Prop :=
 ∀ (pins:Pnn) (s:Shared) (σ:St) (H:Hp) (vs:List V) (us:List Value) (Q:St→Hp→Prop),Inv X pins σ H s→Vals vs us→t vs σ H Q →
  wpAny (model X.prog X.w) X.A (assignInOrder ((assignEach ts X.env).map (·.2)) us) (fun _ s'=>∃ σ' H',Inv X pins σ' H' s'∧Q σ' H') X.xe s
section
variable {X:Cx}{pos:Pos}
noncomputable def gName (i:Nat):TG:=fun v σ H Q=>Q (σ.set i (some v)) H
theorem zaJ_ {i:Nat}{x:Str}(hN:X.N.Nodup) (hi:X.N[i]?=some x) (hx:Loc X.env.scope x) (hf:X.fn x=true∨X.env.scope.names.lookup x=some .local:=by first | exact .inl rfl | exact .inr rfl | assumption):PG X (.Name x pos) (gName i):=by
 intro pins s σ H v u Q I r h
 exact wpAny_assign_Name (zdO_ I hN hi hx r (fun s' I'=>⟨_,H,I',h⟩) hf)
noncomputable def gNil:TGs:=fun vs σ H Q=>vs=[]∧Q σ H
noncomputable def gCons (t:TG) (u:TGs):TGs:=fun vs σ H Q=>∃ v r,vs=v::r∧t v σ H fun σ' H'=>u r σ' H' Q
theorem zg0_:PGs X [] gNil:=by
 intro pins s σ H vs us Q I r h
 obtain ⟨e,h⟩:=h
 subst e
 cases r
 exact assignInOrder_nil ⟨σ,H,I,h⟩
theorem zgt_ {e:Expr}{es:List Expr}{t:TG}{u:TGs}(h1:PG X e t) (h2:PGs X es u)
  (hs:(assignEach (e::es) X.env).map (·.2)=assign e X.env::(assignEach es X.env).map (·.2):=by rfl):PGs X (e::es) (gCons t u):=by
 intro pins s σ H vs us Q I r h
 obtain ⟨v,vr,e1,h⟩:=h
 subst e1
 cases r with
 | cons r rr =>
  rw [hs]
  refine assignInOrder_cons (thn (h1 pins s σ H _ _ _ I r h) fun _ s1 ⟨σ1,H1,I1,q1⟩=>?_)
  exact h2 pins s1 σ1 H1 _ _ Q I1 rr q1
noncomputable def gTup (K:Fgg) (n:Nat) (t:TGs):TG:=fun v σ H Q=>∃ a xs,v=.ref a∧SqT K H a xs∧xs.length=n∧t xs σ H Q
theorem zi3_ {es:List Expr}{k:Nat}{t:TGs}{n:Nat}(hc:X.calm=true) (h:PGs X es t)
  (hn:(assignEach es X.env).length=n:=by rfl) (hst:(assignEach es X.env).findIdx? (·.1)=none:=by rfl):PG X (.Tuple es k pos) (gTup X.K n t):=by
 intro pins s σ H v u Q I r hw
 obtain ⟨a,xs,e1,hq,hl,hw⟩:=hw
 subst e1
 cases r
 obtain ⟨its,rv,ht,hz⟩:=I.tuple hq
 refine assign_Tuple_tuple (I.ok.hd hc) ht (by simp [hn,← hl,rv.length]) hst fun h' hx=>?_
 have I1:Inv X pins σ H { s with heap:=h' }:=I.kept (t':=s.toks) fun b o e=>hx b o (Nat.ne_of_lt (Heap.lt_size e)) e
 exact h pins _ σ H xs _ Q I1 (by simpa using rv) hw
noncomputable def tAsg (te:TE) (g:TG):TS:=fun D σ H=>te σ H fun x H1=>g x σ H1 D.nx
theorem z5_ {i:Nat}{x:Str}{e:Expr}{te:TE}{pos':Pos}(hN:X.N.Nodup) (hi:X.N[i]?=some x) (hx:Loc X.env.scope x) (he:PE X e te) (hs:swapsWith e (some (.Name x pos')) pos.line X.env=pure false:=by rfl) (hf:X.fn x=true∨X.env.scope.names.lookup x=some .local:=by first | exact .inl rfl | exact .inr rfl | assumption) :
  PS X (.Assign [.Name x pos'] e pos) (tAsg te (gName i)):=by
 intro pins s σ H D I h
 refine wpAny_Assign_Name (thn (he pins s σ H _ I h) fun v s1 ⟨y,H1,I1,r1,q1⟩=>?_) hs
 exact zdO_ I1 hN hi hx r1 (fun s2 I2=>⟨_,H1,I2,q1⟩) hf
end
section
variable {X:Cx}{pos:Pos}
end
structure It where
 go:Nat→Hp→Prop
 yld:Nat→Hp→V→Hp→Prop
 stop:Nat→Hp→Prop
noncomputable def FpOk (X:Cx) (pins:Pnn) (H:Hp) (b:Addr):Prop :=
 H b=none∧b≠X.env.locals∧b∉X.fs∧(b∈X.ex∨X.s₀.heap.objs.size≤b)∧(∀ x c,X.env.cells.lookup x=some c→c≠b)∧∀ p∈X.pn++pins,p.1≠b
theorem Inv.fpOk {X:Cx}{pins:Pnn}{σ:St}{H H':Hp}{s:Shared}{b:Addr}(I:Inv X pins σ H s) (hb:s.heap.objs.size≤b) (hn:H' b=none):FpOk X pins H' b:=by
 refine ⟨hn,Nat.ne_of_gt (Nat.lt_of_lt_of_le I.lt hb),I.nofs hb,.inr (Nat.le_trans I.sz hb),fun x c e z=>?_,fun p hp z=>?_⟩
 ·obtain ⟨v,q⟩:=I.cell x c e
  exact absurd (Nat.lt_of_lt_of_le q.lt (by rw [z]; exact hb)) (Nat.lt_irrefl _)
 ·exact absurd (Nat.lt_of_lt_of_le (Heap.lt_size (I.pin p hp).1) (by rw [z]; exact hb)) (Nat.lt_irrefl _)
structure Turn (P:Program) (w:World) (K:Fgg) (tg:Expr) (J:It) (fp:List Addr) (it:Addr) (tn:Nat→Heap→Prop):Prop where
 mem:it∈fp
 obj:∀ i h,tn i h→∀ b∈fp,∃ o,h.get? b=some o∧∀ v,o.data≠.cell v
 keep:∀ i h h',tn i h→(∀ b∈fp,∀ o,h.get? b=some o→h'.get? b=some o)→tn i h'
 item:∀ (X:Cx),X.prog=P→X.w=w→X.K=K→X.calm=true→∀ (i:Nat) (pins:Pnn) (s:Shared) (σ:St) (H:Hp) (E:Value→Shared→Prop),Inv X pins σ H s→(∀ b∈fp,FpOk X pins H b)→tn i s.heap→J.go i H →
  wpAny (model P w) X.A (pyNext (.ref it)) (fun r s1=>∃ u,r=some u ∧
   wpAny (model P w) X.A (letOwnedTupleGo tg (.ref it) u) (fun _ s2=>∃ x H',Inv X pins σ H' s2∧RelV x u∧J.yld i H x H'∧tn (i+1) s2.heap∧∀ b∈fp,H' b=none) E s1) E s
 done:∀ (X:Cx),X.prog=P→X.w=w→X.K=K→X.calm=true→∀ (i:Nat) (pins:Pnn) (s:Shared) (σ:St) (H:Hp) (E:Value→Shared→Prop),Inv X pins σ H s→(∀ b∈fp,FpOk X pins H b)→tn i s.heap→J.stop i H →
  wpAny (model P w) X.A (pyNext (.ref it)) (fun r s1=>r=none∧Inv X pins σ H s1) E s
 self:∀ (A:Around) (i:Nat) (s:Shared) (Q:Value→Shared→Prop) (E:Value→Shared→Prop),tn i s.heap→Q (.ref it) s→wpAny (model P w) A (pyIter (.ref it)) Q E s
noncomputable abbrev TI:=St→Hp→(It→Hp→Prop)→Prop
noncomputable def PIE (X:Cx) (pins:Pnn) (σ:St) (tg:Expr) (R:It→Hp→Prop) (itv:Value) (s2:Shared):Prop :=
 ∃ (it:Addr) (fp:List Addr) (tn:Nat→Heap→Prop) (J:It) (H':Hp),itv=.ref it∧Inv X pins σ H' s2∧Turn X.prog X.w X.K tg J fp it tn∧tn 0 s2.heap∧(∀ b∈fp,FpOk X pins H' b)∧R J H'
noncomputable def PI (X:Cx) (tg iter:Expr) (wi:TI):Prop :=
 ∀ (pins:Pnn) (s:Shared) (σ:St) (H:Hp) (R:It→Hp→Prop),Inv X pins σ H s→wi σ H R →
  wpAny (model X.prog X.w) X.A (eval iter X.env) (fun v s1=>wpAny (model X.prog X.w) X.A (pyIter v) (PIE X pins σ tg R) X.xe s1) X.xe s
theorem zhA_ {M:Model}{A:Around}{E:Value→Shared→Prop}{s:Shared}{tg:Expr}{it:Addr}{u:Value}{o:Obj}{n:String}{vs:Array Value}{Q:Unit→Shared→Prop}(ho:s.heap.get? it=some o) (hc:o.cls=.type n) (hd:o.data=.fields vs)
  (hn:["enumerate", "zip", "dict_itemiterator", "dict_reverseitemiterator", "odict_iterator", "itertools.zip_longest", "itertools.pairwise"].contains n=false) (hQ:Q () s):wpAny M A (letOwnedTupleGo tg (.ref it) u) Q E s:=by
 unfold letOwnedTupleGo
 cases tg<;>first
  | exact wpAny_pure hQ
  | (cases u<;>first
    | exact wpAny_pure hQ
    | (refine wpAny_bind (wpAny_load ho ?_)
       rw [hc,hd]
       show wpAny M A (if (["enumerate", "zip", "dict_itemiterator", "dict_reverseitemiterator", "odict_iterator", "itertools.zip_longest", "itertools.pairwise"].contains n && vs[0]? == some (rawInt _))=true then _ else _) Q E s
       rw [if_neg (by intro h; rw [hn,Bool.false_and] at h; cases h)]
       exact wpAny_pure hQ))
noncomputable def Itl (K:Fgg) (a:Addr):It :=
 ⟨fun i H=>∃ xs x,SqL K H a xs∧xs[i]?=some x,fun i H x H'=>H'=H∧∀ xs,SqL K H a xs→xs[i]?=some x,fun i H=>∃ xs,SqL K H a xs∧xs.length≤i⟩
noncomputable def Itt (K:Fgg) (a:Addr):It :=
 ⟨fun i H=>∃ xs x,SqT K H a xs∧xs[i]?=some x,fun i H x H'=>H'=H∧∀ xs,SqT K H a xs→xs[i]?=some x,fun i H=>∃ xs,SqT K H a xs∧xs.length≤i⟩
noncomputable def Itr (lo:Int) (n:Nat):It:=⟨fun i _=>i<n,fun i H x H'=>H'=H∧x=.int (lo+i),fun i _=>n≤i⟩
theorem ze9_ {P:Program}{w:World}{K:Fgg}{tg:Expr}(a it:Addr):Turn P w K tg (Itl K a) [it] it (fun i h=>h.IsListIter it a i) where
 mem:=by simp
 obj:=fun i h st b hb=>by
  have e:b=it:=by simpa using hb
  subst e
  obtain ⟨o,e,c,d⟩:=st
  exact ⟨o,e,fun v z=>by rw [d] at z; cases z⟩
 keep:=fun i h h' st k=>st.at fun o e=>k it (by simp) o e
 item:=by
  intro X hP hw hK hc i pins s σ H E I hf st hg
  subst hP hw hK
  obtain ⟨xs,x,hq,hx⟩:=hg
  obtain ⟨its,rv,p,hz⟩:=I.list hq
  obtain ⟨u,hu,ru⟩:=rv.get hx
  obtain ⟨f0,f1,f2,f3,f4,f5⟩:=hf it (by simp)
  refine wpAny_pyNext_list_item st p.isList (x:=u) (by simpa using hu) fun h' st' sb=>?_
  have I1:Inv X pins σ H { s with heap:=h' }:=I.turned (t':=s.toks) (fun b o hb e=>(sb.2 b hb).trans e) f0 f1 f3 f4 f5
  obtain ⟨o,e,c,d⟩:=id st'
  exact ⟨u,rfl,zhA_ (s:={ s with heap:=h' }) e c d (by decide) ⟨x,H,I1,ru,⟨rfl,fun ys hy=>by rw [I.list_inj hy hq]; exact hx⟩,st',fun b hb=>(hf b hb).1⟩⟩
 done:=by
  intro X hP hw hK hc i pins s σ H E I hf st hg
  subst hP hw hK
  obtain ⟨xs,hq,hx⟩:=hg
  obtain ⟨its,rv,p,hz⟩:=I.list hq
  obtain ⟨f0,f1,f2,f3,f4,f5⟩:=hf it (by simp)
  have hl:=rv.length
  exact wpAny_pyNext_list_end (I.ok.hd hc) st p.isList (by simp; lia) fun h' eb=>⟨rfl,I.turned (t':=s.toks) (fun b o hb e=>eb b o hb e) f0 f1 f3 f4 f5⟩
 self:=fun _ _ _ _ _ st h=>wpAny_pyIter_listiter st h
theorem zee_ {P:Program}{w:World}{K:Fgg}{tg:Expr}(a it:Addr):Turn P w K tg (Itt K a) [it] it (fun i h=>h.IsTupleIter it a i) where
 mem:=by simp
 obj:=fun i h st b hb=>by
  have e:b=it:=by simpa using hb
  subst e
  obtain ⟨o,e,c,d⟩:=st
  exact ⟨o,e,fun v z=>by rw [d] at z; cases z⟩
 keep:=fun i h h' st k=>st.at fun o e=>k it (by simp) o e
 item:=by
  intro X hP hw hK hc i pins s σ H E I hf st hg
  subst hP hw hK
  obtain ⟨xs,x,hq,hx⟩:=hg
  obtain ⟨its,rv,p,hz⟩:=I.tuple hq
  obtain ⟨u,hu,ru⟩:=rv.get hx
  obtain ⟨f0,f1,f2,f3,f4,f5⟩:=hf it (by simp)
  refine wpAny_pyNext_tuple_item st (show s.heap.IsTuple a its.toArray from p) (x:=u) (by simpa using hu) fun h' st' sb=>?_
  have I1:Inv X pins σ H { s with heap:=h' }:=I.turned (t':=s.toks) (fun b o hb e=>(sb.2 b hb).trans e) f0 f1 f3 f4 f5
  obtain ⟨o,e,c,d⟩:=id st'
  exact ⟨u,rfl,zhA_ (s:={ s with heap:=h' }) e c d (by decide) ⟨x,H,I1,ru,⟨rfl,fun ys hy=>by rw [I.tuple_inj hy hq]; exact hx⟩,st',fun b hb=>(hf b hb).1⟩⟩
 done:=by
  intro X hP hw hK hc i pins s σ H E I hf st hg
  subst hP hw hK
  obtain ⟨xs,hq,hx⟩:=hg
  obtain ⟨its,rv,p,hz⟩:=I.tuple hq
  obtain ⟨f0,f1,f2,f3,f4,f5⟩:=hf it (by simp)
  have hl:=rv.length
  exact wpAny_pyNext_tuple_end (I.ok.hd hc) st (show s.heap.IsTuple a its.toArray from p) (by simp; lia) fun h' eb=>⟨rfl,I.turned (t':=s.toks) (fun b o hb e=>eb b o hb e) f0 f1 f3 f4 f5⟩
 self:=fun _ _ _ _ _ st h=>wpAny_pyIter_tupleiter st h
theorem zec_ {P:Program}{w:World}{K:Fgg}{tg:Expr}(it:Addr) (lo:Int) (n:Nat):Turn P w K tg (Itr lo n) [it] it (fun i h=>IsRangeIter h it (lo+(i:Nat)*1) ((n:Int)-(i:Nat)) 1) where
 mem:=by simp
 obj:=fun i h st b hb=>by
  have e:b=it:=by simpa using hb
  subst e
  exact ⟨_,st,fun v z=>by
   have z':Data.fields _=Data.cell v:=z
   cases z'⟩
 keep:=fun i h h' st k=>k it (by simp) _ st
 item:=by
  intro X hP hw hK hc i pins s σ H E I hf st hg
  subst hP hw hK
  obtain ⟨f0,f1,f2,f3,f4,f5⟩:=hf it (by simp)
  have W:=Walks.range (prog:=X.prog) (w:=X.w) (I.ok.hd hc) it lo 1 n
  refine W.item i s _ _ hg st fun v h' tk hv st' kk=>?_
  obtain ⟨t,rfl⟩:=hv
  have I1:Inv X pins σ H { s with heap:=h',toks:=tk }:=I.turned (fun b o hb e=>kk b o (by simpa using hb) e) f0 f1 f3 f4 f5
  refine ⟨_,rfl,zhA_ (s:={ s with heap:=h',toks:=tk }) (n := "range_iterator") st' rfl rfl (by decide) ⟨.int (lo+i),H,I1,⟨t,?_⟩,⟨rfl,rfl⟩,st',fun b hb=>(hf b hb).1⟩⟩
  rw [Int.mul_one]
 done:=by
  intro X hP hw hK hc i pins s σ H E I hf st hg
  subst hP hw hK
  obtain ⟨f0,f1,f2,f3,f4,f5⟩:=hf it (by simp)
  exact wpAny_pyNext_range_end (I.ok.hd hc) st (by have:n≤i:=hg; lia) fun h' eb=>⟨rfl,I.turned (t':=s.toks) (fun b o hb e=>eb b o hb e) f0 f1 f3 f4 f5⟩
 self:=fun _ _ _ _ _ st h=>wpAny_pyIter_rangeiter st h
end L2
namespace L2
open PySem PySem.Spec PyProof.Rows
section
variable {X:Cx}{tg:Expr}
theorem zfU_ {pins:Pnn}{σ:St}{H:Hp}{s:Shared}{R:It→Hp→Prop}{E:Value→Shared→Prop}{lo hi:Int}{t u v:Tok}{tk:Nat}(I:Inv X pins σ H s) (h1 : -(2 ^ 62)≤lo) (h2:lo<2 ^ 62) (h3 : -(2 ^ 62)≤hi) (h4:hi<2 ^ 62)
  (q:R (Itr lo (hi-lo).toNat) H):wpAny (model X.prog X.w) X.A (pyIter (.ref s.heap.objs.size)) (PIE X pins σ tg R) E { s with heap:=s.heap.push { cls:=.type "range",data:=.fields #[.int lo t,.int hi u,.int 1 v] },toks:=tk }:=by
 refine wpAny_pyIter_range (IsRange.new ..) (small_one h1 h2 h3 h4) ?_
 have I1:Inv X pins σ H { s with heap:=s.heap.push { cls:=.type "range",data:=.fields #[.int lo t,.int hi u,.int 1 v] },toks:=tk }:=I.kept fun b o e=>Heap.get?_push_of_some _ e
 refine ⟨(s.heap.push { cls:=.type "range",data:=.fields #[.int lo t,.int hi u,.int 1 v] }).objs.size,[(s.heap.push { cls:=.type "range",data:=.fields #[.int lo t,.int hi u,.int 1 v] }).objs.size],_,_,H,rfl,
  I1.kept (t':=tk) fun b o e=>Heap.get?_push_of_some _ e,zec_ _ lo (hi-lo).toNat,?_,fun b hb=>?_,q⟩
 ·have e1:lo+((0:Nat):Int)*1=lo:=by simp
  have e2:(((hi-lo).toNat:Nat):Int)-((0:Nat):Int)=Builtin.Range.rangeSize lo hi 1:=by rw [rangeSize_one]; split<;>lia
  show IsRangeIter _ _ (lo+((0:Nat):Int)*1) ((((hi-lo).toNat:Nat):Int)-((0:Nat):Int)) 1
  rw [e1,e2]
  exact Heap.get?_push_size _ rfl
 ·have e:b=(s.heap.push { cls:=.type "range",data:=.fields #[.int lo t,.int hi u,.int 1 v] }).objs.size:=by simpa using hb
  subst e
  exact I1.fpOk (Nat.le_refl _) (I1.hok.fresh (Nat.le_refl _))
noncomputable def tFor (wi:TI) (g:TG) (tb:TS):TS:=fun D σ H=>wi σ H fun J H1=>∃ W:Nat→Nat→St→Hp→Prop,(∃ m,W 0 m σ H1)∧∀ i m σ H,W i m σ H →
 (J.stop i H∧D.nx σ H)∨(J.go i H∧∃ N:St→Hp→Prop,(∀ σ' H',N σ' H'→∃ m',m'<m∧W (i+1) m' σ' H')∧∀ x H',J.yld i H x H'→g x σ H' fun σ2 H2=>tb { D with nx:=N,ct:=N,bk:=D.nx } σ2 H2)
noncomputable def pinsAt (fp:List Addr) (h:Heap):Pnn:=fp.filterMap fun b=>(h.get? b).map fun o=>(b,o)
theorem zb5_ {fp:List Addr}{h:Heap}{b:Addr}{o:Obj}(hb:b∈fp) (e:h.get? b=some o):(b,o)∈pinsAt fp h:=List.mem_filterMap.mpr ⟨b,hb,by rw [e]; rfl⟩
theorem ze8_ {fp:List Addr}{h:Heap}{p:Addr×Obj}(hp:p∈pinsAt fp h):p.1∈fp∧h.get? p.1=some p.2:=by
 obtain ⟨b,hb,e⟩:=List.mem_filterMap.mp hp
 cases q:h.get? b with
 | none=>rw [q] at e; cases e
 | some o =>
  rw [q] at e
  have e':(b,o)=p:=Option.some.inj e
  subst e'
  exact ⟨hb,q⟩
theorem Inv.pinned {pins:Pnn}{σ:St}{H:Hp}{s:Shared}{fp:List Addr}(I:Inv X pins σ H s) (hf:∀ b∈fp,FpOk X pins H b) (ho:∀ b∈fp,∃ o,s.heap.get? b=some o∧∀ v,o.data≠.cell v):Inv X (pins++pinsAt fp s.heap) σ H s :=
 I.pins_of fun p hp=>(List.mem_append.mp hp).elim (fun z=>I.pin p (List.mem_append_right _ z)) fun z=>by
  obtain ⟨hb,e⟩:=ze8_ z
  obtain ⟨f0,f1,f2,_⟩:=hf p.1 hb
  obtain ⟨o,e',d⟩:=ho p.1 hb
  rw [e] at e'; cases e'
  exact ⟨e,f0,f1,f2,d⟩
theorem Inv.unpinned {pins pl:Pnn}{σ:St}{H:Hp}{s:Shared}(I:Inv X (pins++pl) σ H s):Inv X pins σ H s:=I.pins_of fun p hp=>I.pin p (List.mem_append_right _ (List.mem_append_left _ hp))
theorem zbN_ {iter:Expr}{body:List Stmt}{wi:TI}{g:TG}{tb:TS}{pos:Pos}(hp:PassesOwn (model X.prog X.w) X.A X.env X.xe) (hc:X.calm=true) (hi:PI X tg iter wi) (hg:PG X tg g) (hb:PSs X body tb)
  (hs:∀ x,foldedSetIterable iter X.env x=pure x:=by intro _; rfl):PS X (.For tg iter body [] pos) (tFor wi g tb):=by
 intro pins s σ H D I h
 refine wpAny_For (thn (hi pins s σ H _ I h) fun v s1 h1=>thn h1 fun itv s2 h2=>?_) hs
 obtain ⟨it,fp,tn,J,H2,e,I2,T,st2,f2,W,⟨m0,w0⟩,turn⟩:=h2
 subst e
 have stat:∀ {H':Hp},(∀ b∈fp,H' b=none)→∀ b∈fp,FpOk X pins H' b:=fun hn b hb=>⟨hn b hb,(f2 b hb).2⟩
 refine codeAny_forLoop_any (fun n s'=>∃ i σ' H',Inv X pins σ' H' s'∧tn i s'.heap∧(∀ b∈fp,H' b=none)∧W i n σ' H') ?_ m0 ⟨0,σ,H2,I2,st2,fun b hb=>(f2 b hb).1,w0⟩
 rintro n s3 ⟨i,σ3,H3,I3,st3,fr3,w3⟩
 rcases turn i n σ3 H3 w3 with ⟨stop,qn⟩ | ⟨go,N,hN,step⟩
 ·refine wpAny_passesOwn hp (thn (T.done X rfl rfl rfl hc i pins s3 σ3 H3 X.xe I3 (stat fr3) st3 stop) fun r s4 ⟨hr,I4⟩=>?_)
  subst hr
  exact wpAny_execs_nil ⟨σ3,H3,I4,qn⟩
 ·refine wpAny_passesOwn hp (thn (T.item X rfl rfl rfl hc i pins s3 σ3 H3 X.xe I3 (stat fr3) st3 go) fun r s4 ⟨u,hr,h4⟩=>?_)
  subst hr
  refine wpAny_passesOwn hp (thn h4 fun _ s5 ⟨x,H5,I5,r5,y5,st5,fr5⟩=>?_)
  have I5':=I5.pinned (stat fr5) (T.obj _ _ st5)
  refine wpAny_passesOwn hp (thn (hg _ s5 σ3 H5 x u _ I5' r5 (step x H5 y5)) fun _ s6 ⟨σ6,H6,I6,q6⟩=>?_)
  refine wpAny_passesOwn hp (thn (hb _ s6 σ6 H6 _ I6 q6) fun f s7 q7=>?_)
  have again:∀ {σ7:St}{H7:Hp},Inv X (pins++pinsAt fp s5.heap) σ7 H7 s7→N σ7 H7→∃ m,m<n∧∃ i σ' H',Inv X pins σ' H' s7∧tn i s7.heap∧(∀ b∈fp,H' b=none)∧W i m σ' H':=fun {σ7 H7} I7 n7=>by
   obtain ⟨m',hm,w7⟩:=hN σ7 H7 n7
   refine ⟨m',hm,i+1,σ7,H7,I7.unpinned,T.keep _ _ _ st5 fun b hb o e=>(I7.pin (b,o) (List.mem_append_right _ (List.mem_append_right _ (zb5_ hb e)))).1,fun b hb=>?_,w7⟩
   obtain ⟨o,e,d⟩:=T.obj _ _ st5 b hb
   exact (I7.pin (b,o) (List.mem_append_right _ (List.mem_append_right _ (zb5_ hb e)))).2.1
  cases f with
  | next=>obtain ⟨σ7,H7,I7,n7⟩:=q7; exact again I7 n7
  | cont=>obtain ⟨σ7,H7,I7,n7⟩:=q7; exact again I7 n7
  | brk=>obtain ⟨σ7,H7,I7,q7⟩:=q7; exact ⟨σ7,H7,I7.unpinned,q7⟩
  | ret v=>obtain ⟨x7,σ7,H7,I7,r7,q7⟩:=q7; exact ⟨x7,σ7,H7,I7.unpinned,r7,q7⟩
end
end L2
namespace L2
open PySem PySem.Spec PyProof.Rows
noncomputable abbrev R2:=V→V→Hp→VK→Prop
noncomputable def OpR (X:Cx) (f:Value→Value→Sem Value) (r:R2):Prop :=
 ∀ (pins:Pnn) (s:Shared) (σ:St) (H:Hp) (x y:V) (v u:Value) (Q:VK),Inv X pins σ H s→RelV x v→RelV y u→r x y H Q →
  wpAny (model X.prog X.w) X.A (f v u) (EP X pins σ Q) X.xe s
noncomputable def UnR (X:Cx) (f:Value→Sem Value) (r:V→Hp→VK→Prop):Prop :=
 ∀ (pins:Pnn) (s:Shared) (σ:St) (H:Hp) (x:V) (v:Value) (Q:VK),Inv X pins σ H s→RelV x v→r x H Q →
  wpAny (model X.prog X.w) X.A (f v) (EP X pins σ Q) X.xe s
noncomputable def CallR (X:Cx) (f:Value) (r:List V→Hp→VK→Prop):Prop :=
 ∀ (pins:Pnn) (s:Shared) (σ:St) (H:Hp) (xs:List V) (us:List Value) (Q:VK),Inv X pins σ H s→Vals xs us→r xs H Q →
  wpAny (model X.prog X.w) X.A (call f us) (EP X pins σ Q) X.xe s
noncomputable def tOp (r:R2) (ta tb:TE):TE:=fun σ H Q=>ta σ H fun x H1=>tb σ H1 fun y H2=>r x y H2 Q
noncomputable def rI (C:Int→Int→Prop) (g:Int→Int→V):R2:=fun x y H Q=>∃ i j,x=.int i∧y=.int j∧C i j∧Q (g i j) H
noncomputable def rI0 (g:Int→Int→V):R2:=fun x y H Q=>∃ i j,x=.int i∧y=.int j∧Q (g i j) H
noncomputable def rU (g:Int→V):V→Hp→VK→Prop:=fun x H Q=>∃ i,x=.int i∧Q (g i) H
section
variable {X:Cx}{a b c:Expr}{ta tb tc:TE}{pos:Pos}
theorem binT (ha:PE X a ta) (hb:PE X b tb) {pins:Pnn}{s:Shared}{σ:St}{H:Hp}{R:V→V→Hp→Prop}(I:Inv X pins σ H s)
  (h:ta σ H fun x H1=>tb σ H1 fun y H2=>R x y H2) {Q:Value→Shared→Prop}{f:Value→Value→Sem Value}
  (hf:∀ v u s2 x y H2,Inv X pins σ H2 s2→RelV x v→RelV y u→R x y H2→wpAny (model X.prog X.w) X.A (f v u) Q X.xe s2) :
  wpAny (model X.prog X.w) X.A (eval a X.env) (fun v s₁=>wpAny (model X.prog X.w) X.A (eval b X.env) (fun u s₂=>wpAny (model X.prog X.w) X.A (f v u) Q X.xe s₂) X.xe s₁) X.xe s:=by
 refine thn (ha pins s σ H _ I h) fun v s1 ⟨x,H1,I1,r1,q1⟩=>?_
 refine thn (hb pins s1 σ H1 _ I1 q1) fun u s2 ⟨y,H2,I2,r2,q2⟩=>?_
 exact hf v u s2 x y H2 I2 r1 r2 q2
theorem za7_ {op:Operator}{r:R2}(ho:OpR X (binaryOp op) r) (ha:PE X a ta) (hb:PE X b tb):PE X (.BinOp a op b pos) (tOp r ta tb):=by
 intro pins s σ H Q I h
 exact wpAny_BinOp (binT ha hb I h fun v u s2 x y H2 I2 rx ry q=>ho pins s2 σ H2 x y v u Q I2 rx ry q)
theorem opI {f:Value→Value→Sem Value}{C:Int→Int→Prop}{g:Int→Int→Int}
  (rule:∀ (i j:Int) (t u:Tok) (s:Shared) (Q:Value→Shared→Prop) (E:Value→Shared→Prop),C i j→Q (.int (g i j) s.toks) { s with toks:=s.toks+1 }→wpAny (model X.prog X.w) X.A (f (.int i t) (.int j u)) Q E s) :
  OpR X f (rI C fun i j=>.int (g i j)):=by
 intro pins s σ H x y v u Q I rx ry h
 obtain ⟨i,j,rfl,rfl,hc,q⟩:=h
 obtain ⟨t,rfl⟩:=rx
 obtain ⟨t',rfl⟩:=ry
 exact rule i j t t' s _ _ hc ⟨.int (g i j),H,I.tok _,⟨_,rfl⟩,q⟩
theorem opI0 {f:Value→Value→Sem Value}{g:Int→Int→Int}
  (rule:∀ (i j:Int) (t u:Tok) (s:Shared) (Q:Value→Shared→Prop) (E:Value→Shared→Prop),Q (.int (g i j) s.toks) { s with toks:=s.toks+1 }→wpAny (model X.prog X.w) X.A (f (.int i t) (.int j u)) Q E s) :
  OpR X f (rI0 fun i j=>.int (g i j)):=by
 intro pins s σ H x y v u Q I rx ry h
 obtain ⟨i,j,rfl,rfl,q⟩:=h
 obtain ⟨t,rfl⟩:=rx
 obtain ⟨t',rfl⟩:=ry
 exact rule i j t t' s _ _ ⟨.int (g i j),H,I.tok _,⟨_,rfl⟩,q⟩
theorem opB0 {f:Value→Value→Sem Value}{g:Int→Int→Bool}
  (rule:∀ (i j:Int) (t u:Tok) (s:Shared) (Q:Value→Shared→Prop) (E:Value→Shared→Prop),Q (.bool (g i j)) s→wpAny (model X.prog X.w) X.A (f (.int i t) (.int j u)) Q E s) :
  OpR X f (rI0 fun i j=>.bl (g i j)):=by
 intro pins s σ H x y v u Q I rx ry h
 obtain ⟨i,j,rfl,rfl,q⟩:=h
 obtain ⟨t,rfl⟩:=rx
 obtain ⟨t',rfl⟩:=ry
 exact rule i j t t' s _ _ ⟨.bl (g i j),H,I,rfl,q⟩
noncomputable def CDiv (i j:Int):Prop:=0<j∧j<1073741824
noncomputable def CPow (i j:Int):Prop:=0≤j∧j≤1000000∧i.natAbs<2 ^ 64
noncomputable def CMul (i j:Int):Prop:=(-(2 ^ 64)<i∧i<2 ^ 64)∨(-(2 ^ 64)<j∧j<2 ^ 64)
theorem CMul.ok {i j:Int}(h:CMul i j):IntMulOk i j:=by
 rcases h with ⟨h1,h2⟩ | ⟨h1,h2⟩
 ·exact .of_left (intBits_le_64 h1 h2)
 ·exact .of_right (intBits_le_64 h1 h2)
theorem ziF_:OpR X (binaryOp .Add) (rI0 fun i j=>.int (i+j)):=opI0 fun _ _ _ _ _ _ _ q=>add_int q
theorem zje_:OpR X (binaryOp .Sub) (rI0 fun i j=>.int (i-j)):=opI0 fun _ _ _ _ _ _ _ q=>sub_int q
theorem zi2_:OpR X (binaryOp .Mod) (rI (fun _ j=>0<j) fun i j=>.int (i % j)):=opI fun i j _ _ _ _ _ hc q=>by
 have h1:(0:Int)<j:=hc
 exact mod_int' (by lia) (by rw [Int.fmod_eq_emod_of_nonneg i (by lia)]; exact q)
theorem unI {f:Value→Sem Value}{g:Int→Int}
  (rule:∀ (i:Int) (t:Tok) (s:Shared) (Q:Value→Shared→Prop) (E:Value→Shared→Prop),Q (.int (g i) s.toks) { s with toks:=s.toks+1 }→wpAny (model X.prog X.w) X.A (f (.int i t)) Q E s) :
  UnR X f (rU fun i=>.int (g i)):=by
 intro pins s σ H x v Q I rx h
 obtain ⟨i,rfl,q⟩:=h
 obtain ⟨t,rfl⟩:=rx
 exact rule i t s _ _ ⟨.int (g i),H,I.tok _,⟨_,rfl⟩,q⟩
theorem ziA_:UnR X (unaryOp .USub) (rU fun i=>.int (-i)):=unI fun _ _ _ _ _ q=>neg_int q
end
noncomputable def scal:V→V→Bool
 | .non,.non=>true | .non,.int _=>true | .int _,.non=>true | .non,.bl _=>true | .bl _,.non=>true | .non,.str _=>true | .str _,.non=>true
 | .int _,.int _=>true | .bl _,.bl _=>true | .str _,.str _=>true | .byt _,.byt _=>true
 | .int _,.str _=>true | .str _,.int _=>true | .bl _,.str _=>true | .str _,.bl _=>true
 | _,_=>false
noncomputable def rEq:R2:=fun x y H Q=>scal x y=true∧Q (.bl (decide (x=y))) H
noncomputable def rNe:R2:=fun x y H Q=>scal x y=true∧Q (.bl (!decide (x=y))) H
theorem zfn_ {i j:Int}:decide (V.int i=V.int j)=(i == j):=by
 rw [Bool.eq_iff_iff]
 simp
theorem zig_ {i j:Bool}:decide (V.bl i=V.bl j)=(i == j):=by
 rw [Bool.eq_iff_iff]
 simp
theorem zfI_ {i j:Str}:decide (V.str i=V.str j)=(i == j):=by
 rw [Bool.eq_iff_iff]
 simp
theorem zfK_ {i j:Array UInt8}:decide (V.byt i=V.byt j)=(i.toList == j.toList):=by
 rw [Bool.eq_iff_iff]
 cases i
 cases j
 simp
section
variable {X:Cx}{a b c:Expr}{ta tb tc:TE}{pos:Pos}
theorem zC_ {pins:Pnn}{σ:St}{H:Hp}{s:Shared}{Q:VK}{k k':Bool}(I:Inv X pins σ H s) (q:Q (.bl k) H) (e:k=k'):EP X pins σ Q (.bool k') s:=by
 subst e
 exact ⟨.bl k,H,I,rfl,q⟩
theorem op_eq:OpR X (compareOp .Eq) rEq:=by
 intro pins s σ H x y v u Q I rx ry h
 obtain ⟨hs,q⟩:=h
 cases x with
 | non =>
  cases rx
  cases y with
  | non=>cases ry; exact PySem.EqNone.eq_none_none (zC_ I q (by simp))
  | bl j=>cases ry; exact PySem.EqNone.eq_none_bool (zC_ I q (by simp))
  | int j=>obtain ⟨t',rfl⟩:=ry; exact PySem.EqNone.eq_none_int (zC_ I q (by simp))
  | str j=>obtain ⟨t',rfl⟩:=ry; exact PySem.EqNone.eq_none_str (zC_ I q (by simp))
  | _=>exact absurd (show false=true from hs) Bool.false_ne_true
 | bl i =>
  cases rx
  cases y with
  | non=>cases ry; exact PySem.EqNone.eq_bool_none (zC_ I q (by simp))
  | bl j=>cases ry; exact eq_bool (zC_ I q zig_)
  | str j=>obtain ⟨t',rfl⟩:=ry; exact PySem.EqMixed.eq_bool_str (zC_ I q (by simp))
  | _=>exact absurd (show false=true from hs) Bool.false_ne_true
 | int i =>
  obtain ⟨t,rfl⟩:=rx
  cases y with
  | non=>cases ry; exact PySem.EqNone.eq_int_none (zC_ I q (by simp))
  | int j=>obtain ⟨t',rfl⟩:=ry; exact eq_int (zC_ I q zfn_)
  | str j=>obtain ⟨t',rfl⟩:=ry; exact PySem.EqMixed.eq_int_str (zC_ I q (by simp))
  | _=>exact absurd (show false=true from hs) Bool.false_ne_true
 | str i =>
  obtain ⟨t,rfl⟩:=rx
  cases y with
  | non=>cases ry; exact PySem.EqNone.eq_str_none (zC_ I q (by simp))
  | bl j=>cases ry; exact PySem.EqMixed.eq_str_bool (zC_ I q (by simp))
  | int j=>obtain ⟨t',rfl⟩:=ry; exact PySem.EqMixed.eq_str_int (zC_ I q (by simp))
  | str j=>obtain ⟨t',rfl⟩:=ry; exact eq_str (zC_ I q zfI_)
  | _=>exact absurd (show false=true from hs) Bool.false_ne_true
 | byt i =>
  obtain ⟨t,rfl⟩:=rx
  cases y with
  | byt j=>obtain ⟨t',rfl⟩:=ry; exact PySem.W.eq_bytes (zC_ I q zfK_)
  | _=>exact absurd (show false=true from hs) Bool.false_ne_true
 | _=>cases y<;>exact absurd (show false=true from hs) Bool.false_ne_true
theorem op_ne:OpR X (compareOp .NotEq) rNe:=by
 intro pins s σ H x y v u Q I rx ry h
 obtain ⟨hs,q⟩:=h
 cases x with
 | non =>
  cases rx
  cases y with
  | non=>cases ry; exact PySem.EqNone.ne_none_none (zC_ I q (by simp))
  | bl j=>cases ry; exact PySem.EqNone.ne_none_bool (zC_ I q (by simp))
  | int j=>obtain ⟨t',rfl⟩:=ry; exact PySem.EqNone.ne_none_int (zC_ I q (by simp))
  | str j=>obtain ⟨t',rfl⟩:=ry; exact PySem.EqNone.ne_none_str (zC_ I q (by simp))
  | _=>exact absurd (show false=true from hs) Bool.false_ne_true
 | bl i =>
  cases rx
  cases y with
  | non=>cases ry; exact PySem.EqNone.ne_bool_none (zC_ I q (by simp))
  | bl j=>cases ry; exact ne_bool (zC_ I q (congrArg not zig_))
  | str j=>obtain ⟨t',rfl⟩:=ry; exact PySem.EqMixed.ne_bool_str (zC_ I q (by simp))
  | _=>exact absurd (show false=true from hs) Bool.false_ne_true
 | int i =>
  obtain ⟨t,rfl⟩:=rx
  cases y with
  | non=>cases ry; exact PySem.EqNone.ne_int_none (zC_ I q (by simp))
  | int j=>obtain ⟨t',rfl⟩:=ry; exact ne_int (zC_ I q (congrArg not zfn_))
  | str j=>obtain ⟨t',rfl⟩:=ry; exact PySem.EqMixed.ne_int_str (zC_ I q (by simp))
  | _=>exact absurd (show false=true from hs) Bool.false_ne_true
 | str i =>
  obtain ⟨t,rfl⟩:=rx
  cases y with
  | non=>cases ry; exact PySem.EqNone.ne_str_none (zC_ I q (by simp))
  | bl j=>cases ry; exact PySem.EqMixed.ne_str_bool (zC_ I q (by simp))
  | int j=>obtain ⟨t',rfl⟩:=ry; exact PySem.EqMixed.ne_str_int (zC_ I q (by simp))
  | str j=>obtain ⟨t',rfl⟩:=ry; exact ne_str (zC_ I q (congrArg not zfI_))
  | _=>exact absurd (show false=true from hs) Bool.false_ne_true
 | byt i =>
  obtain ⟨t,rfl⟩:=rx
  cases y with
  | byt j=>obtain ⟨t',rfl⟩:=ry; exact PySem.W.ne_bytes (zC_ I q (congrArg not zfK_))
  | _=>exact absurd (show false=true from hs) Bool.false_ne_true
 | _=>cases y<;>exact absurd (show false=true from hs) Bool.false_ne_true
theorem op_lt:OpR X (compareOp .Lt) (rI0 fun i j=>.bl (decide (i<j))):=opB0 fun _ _ _ _ _ _ _ q=>lt_int q
theorem op_ge:OpR X (compareOp .GtE) (rI0 fun i j=>.bl (decide (j≤i))):=opB0 fun _ _ _ _ _ _ _ q=>ge_int q
theorem zeP_:OpR X (compareOp .Lt) (fun x y H Q=>∃ i j,x=.str i∧y=.str j∧Q (.bl (decide (i.cps.toList<j.cps.toList))) H):=by
 intro pins s σ H x y v u Q I rx ry h
 obtain ⟨i,j,rfl,rfl,q⟩:=h
 obtain ⟨t,rfl⟩:=rx
 obtain ⟨t',rfl⟩:=ry
 exact lt_str (zC_ I q rfl)
theorem zi0_:OpR X (compareOp .Is) (fun x y H Q=>y=.non∧Q (.bl (decide (x=.non))) H):=by
 intro pins s σ H x y v u Q I rx ry h
 obtain ⟨rfl,q⟩:=h
 cases ry
 refine is_none_gen (zC_ I q ?_)
 cases x<;>first
  | (cases rx; rfl)
  | (obtain ⟨t,rfl⟩:=rx; rfl)
theorem zhz_:OpR X (compareOp .IsNot) (fun x y H Q=>y=.non∧Q (.bl (!decide (x=.non))) H):=by
 intro pins s σ H x y v u Q I rx ry h
 obtain ⟨rfl,q⟩:=h
 cases ry
 refine isnot_none_gen (zC_ I q ?_)
 cases x<;>first
  | (cases rx; rfl)
  | (obtain ⟨t,rfl⟩:=rx; rfl)
theorem zcw_:OpR X (compareOp .NotIn) (fun x y H Q=>∃ i j,x=.str i∧y=.str j∧Q (.bl (!(!(Builtin.Str.occurrences j i 0 j.length 1).isEmpty))) H):=by
 intro pins s σ H x y v u Q I rx ry h
 obtain ⟨i,j,rfl,rfl,q⟩:=h
 obtain ⟨t,rfl⟩:=rx
 obtain ⟨t',rfl⟩:=ry
 exact notIn_str (zC_ I q rfl)
theorem zgE_ {op:CmpOp}{r:R2}(ho:OpR X (compareOp op) r) (ha:PE X a ta) (hb:PE X b tb) (hm:behindInMarks op b=false):PE X (.Compare a [op] [b] pos) (tOp r ta tb):=by
 intro pins s σ H Q I h
 exact wpAny_Compare1 (binT ha hb I h fun v u s2 x y H2 I2 rx ry q=>ho pins s2 σ H2 x y v u Q I2 rx ry q) hm
theorem line63:(sizeLine:Nat)<2 ^ 63:=by rw [sizeLine_eq]; decide
theorem zep_:OpR X (binaryOp .Add) (fun x y H Q=>∃ i j,x=.str i∧y=.str j∧i.length+j.length≤sizeLine∧Q (.str (i++j)) H):=by
 intro pins s σ H x y v u Q I rx ry h
 obtain ⟨i,j,rfl,rfl,hz,q⟩:=h
 obtain ⟨t,rfl⟩:=rx
 obtain ⟨t',rfl⟩:=ry
 exact add_str (fun t' tk=>⟨.str (i++j),H,I.tok _,⟨_,rfl⟩,q⟩) hz
theorem vals1 {x:V}{us:List Value}(r:Vals [x] us):∃ u,us=[u]∧RelV x u:=by
 cases r with
 | cons r1 r2=>cases r2; exact ⟨_,rfl,r1⟩
theorem vals2 {x y:V}{us:List Value}(r:Vals [x,y] us):∃ u w',us=[u,w']∧RelV x u∧RelV y w':=by
 cases r with
 | cons r1 r2 =>
  cases r2 with
  | cons r3 r4=>cases r4; exact ⟨_,_,rfl,r1,r3⟩
end
end L2
namespace L2
open PySem PySem.Spec PyProof.Rows
structure ObjM (h:Heap) (x dx C:Addr) (mA:Str→Option Value):Prop where
 obj:h.get? x=some (PySem.W.instObj C dx)
 ns:h.Ns1 dx mA
 ne:dx≠x
theorem ze3_ {h:Heap}{dx:Addr}{mA:Str→Option Value}(n:h.Ns1 dx mA):∃ od,h.get? dx=some od∧∀ name,PySem.W.lookIn name od=some (mA name):=by
 obtain ⟨o,es,ep,ho,hd,hk,_,hm⟩:=n
 refine ⟨o,ho,fun name=>?_⟩
 have e:=hm name
 unfold nsFind findBy at e
 rw [← Array.find?_toList] at e
 unfold PySem.W.lookIn
 rw [hd]
 dsimp only
 split
 ·rename_i y q
  rw [q] at e
  exact congrArg some e
 ·rename_i q
  rw [q] at e
  have a:es.toList.any (·.refKey)=false:=by
   rw [List.any_eq_false]
   intro y hy
   obtain ⟨z,t,hkey⟩:=hk y (Array.mem_toList_iff.mp hy)
   simp [DictEntry.refKey,hkey]
  have a':¬ es.toList.any (·.refKey)=true:=by rw [a]; exact Bool.false_ne_true
  rw [if_neg a']
  exact congrArg some e
theorem ObjM.look {h:Heap}{x dx C:Addr}{mA:Str→Option Value}(I:ObjM h x dx C mA):∃ od,PySem.W.InstAt h x (PySem.W.instObj C dx) C (some od)∧∀ name,PySem.W.lookIn name od=some (mA name) :=
 let ⟨od,ho,hl⟩:=ze3_ I.ns
 ⟨od,⟨I.obj,rfl,rfl,ho⟩,hl⟩
section
variable {prog:Program}{w:World}{A:Around}{E:Value→Shared→Prop}{s:Shared}{K:Fgg}{x dx C f:Addr}{mA:Str→Option Value}{name:Str}{v:Value}
end
theorem RelO.some_of {v:V}{o:Option Value}(r:RelO (some v) o):∃ u,o=some u∧RelV v u:=by
 cases o with
 | none=>exact (show False from r).elim
 | some u=>exact ⟨u,rfl,r⟩
section
variable {P:Program}{w:World}{H H':Hp}{h h':Heap}{a C dx:Addr}{fs fs':List (Str×V)}
theorem zhM_ (hok:HOk P w H h) (e:H a=some (.ins C dx fs)):∃ mA,ObjM h a dx C mA∧(∀ f,RelO (fs.lookup f) (mA f))∧PySem.Within mA (fs.map (·.1))∧fs.length≤1000∧H dx=some (.own a):=by
 obtain ⟨d,z,ne,ob,mA,n,r,q⟩:=(show ObjOk P w H h a (.ins C dx fs) from hok a _ e)
 exact ⟨mA,⟨ob,n,ne⟩,r,q,z,d⟩
end
structure Cls (K:Fgg) (C:Addr):Prop where
 pg:PySem.W.plainGet K C Str.empty=true
 hd:PySem.W.hasDictIn K C=true
 po:PySem.W.plainOver K C=true
 sa:PySem.W.findIn K (.ref C) "__setattr__" = some (some (.builtin "object.__setattr__"))
theorem Cls.get {K:Fgg}{C:Addr}(c:Cls K C) (f:Str):PySem.W.plainGet K C f=true:=c.pg
section
variable {X:Cx}{pins:Pnn}{σ:St}{H:Hp}{s:Shared}{a C dx:Addr}{fs:List (Str×V)}{f:Str}{v:V}{A:Around}{E:Value→Shared→Prop}
end
section
variable {X:Cx}{o e value:Expr}{f:Str}{pos pos' tpos:Pos}{ta tv:TE}
end
section
variable {X:Cx}{pins:Pnn}{σ:St}{H:Hp}{s:Shared}{A:Around}{E:Value→Shared→Prop}{Q:Value→Shared→Prop}{c:Value}{b:Bool}
inductive TyOf (K:Fgg) (H:Hp):V→Value→Prop where
 | non:TyOf K H .non (.type "NoneType")
 | bl (x:Bool):TyOf K H (.bl x) (.type "bool")
 | int (i:Int):TyOf K H (.int i) (.type "int")
 | str (x:Str):TyOf K H (.str x) (.type "str")
 | flt (x:UInt64):TyOf K H (.flt x) (.type "float")
 | lst {a:Addr}{xs:List V}(e:H a=some (.lst xs)):TyOf K H (.ref a) (.type "list")
 | frz {a:Addr}{o:Obj}{xs:List V}(e:H a=some (.frz o (.lst xs))):TyOf K H (.ref a) (.type "list")
 | tup {a:Addr}{xs:List V}(e:H a=some (.tup xs)):TyOf K H (.ref a) (.type "tuple")
 | dK {a:Addr}{kvs:List (Key×V)}(e:H a=some (.dK kvs)):TyOf K H (.ref a) (.type "dict")
 | dT {a:Addr}{kvs:List (List Key×V)}(e:H a=some (.dT kvs)):TyOf K H (.ref a) (.type "dict")
 | ins {a C dx:Addr}{fs:List (Str×V)}(e:H a=some (.ins C dx fs)) (cl:Cls K C) (ha:PySem.W.findIn K (.ref C) "__class__" = some (some (.builtin "object.__class__")))
   (hn:PySem.W.specialIn K (.builtin "object.__class__") "__get__" = some (some (.builtin "getset_descriptor.__get__"))) (htk:PySem.W.takesIn K (.builtin "object.__class__")=some true)
   (hm:PySem.W.mroIn K C (.type "object")=some true):TyOf K H (.ref a) (.ref C)
theorem zcZ_ {x:V}{u t:Value}(I:Inv X pins σ H s) (rx:RelV x u) (ty:TyOf X.K H x t) (e:PySem.W.kitOne X.K t c=some b) (h:∀ tk,Q (.bool b) { s with toks:=tk }) :
  wpAny (model X.prog X.w) A (call (.builtin "isinstance") [u,c]) Q E s:=by
 cases ty with
 | non=>cases (show u=Value.none from rx); exact PySem.W.kia_one PySem.W.kitx_none I.kIn True.intro e (fun z=>nomatch z) h
 | bl y=>cases (show u=Value.bool y from rx); exact PySem.W.kia_one PySem.W.kitx_bool I.kIn True.intro e (fun z=>nomatch z) h
 | int i=>obtain ⟨t,q⟩:=(show ∃ t,u=Value.int i t from rx); cases q; exact PySem.W.kia_one PySem.W.kitx_int I.kIn True.intro e (fun z=>nomatch z) h
 | str y=>obtain ⟨t,q⟩:=(show ∃ t,u=Value.str y t from rx); cases q; exact PySem.W.kia_one PySem.W.kitx_str I.kIn True.intro e (fun z=>nomatch z) h
 | flt y=>obtain ⟨t,q⟩:=(show ∃ t,u=Value.float y t from rx); cases q; exact PySem.W.kia_one PySem.W.kitx_float I.kIn True.intro e (fun z=>nomatch z) h
 | @lst a xs ea =>
  cases (show u=Value.ref a from rx)
  obtain ⟨_,_,n,_,h1⟩:=(show ObjOk X.prog X.w H s.heap a (.lst xs) from I.hok a _ ea)
  exact PySem.W.kia_one PySem.W.kitx_list I.kIn ⟨_,h1,rfl⟩ e (fun z=>nomatch z) h
 | @frz a ob xs ea =>
  cases (show u=Value.ref a from rx)
  obtain ⟨_,_,_,n,_,h1⟩:=(show ObjOk X.prog X.w H s.heap a (.frz ob (.lst xs)) from I.hok a _ ea)
  exact PySem.W.kia_one PySem.W.kitx_list I.kIn ⟨_,h1,rfl⟩ e (fun z=>nomatch z) h
 | @tup a xs ea =>
  cases (show u=Value.ref a from rx)
  obtain ⟨_,_,_,p⟩:=(show ObjOk X.prog X.w H s.heap a (.tup xs) from I.hok a _ ea)
  obtain ⟨o,h1,h2,_⟩:=p
  exact PySem.W.kia_one PySem.W.kitx_tuple I.kIn ⟨o,h1,h2⟩ e (fun z=>nomatch z) h
 | @dK a kvs ea =>
  cases (show u=Value.ref a from rx)
  obtain ⟨_,_,vs,_,p⟩:=(show ObjOk X.prog X.w H s.heap a (.dK kvs) from I.hok a _ ea)
  obtain ⟨o,es,ep,h1,h2,_⟩:=p
  exact PySem.W.kia_one PySem.W.kitx_dict I.kIn ⟨o,h1,h2.1⟩ e (fun z=>nomatch z) h
 | @dT a kvs ea =>
  cases (show u=Value.ref a from rx)
  obtain ⟨_,_,xs,_,o,es,ep,h1,h2,_⟩:=(show ObjOk X.prog X.w H s.heap a (.dT kvs) from I.hok a _ ea)
  exact PySem.W.kia_one PySem.W.kitx_dict I.kIn ⟨o,h1,h2.1⟩ e (fun z=>nomatch z) h
 | @ins a C dx fs ea cl ha hn htk hm =>
  cases (show u=Value.ref a from rx)
  obtain ⟨mA,O,_⟩:=zhM_ I.hok ea
  obtain ⟨od,J,_⟩:=O.look
  exact PySem.W.kia_one (PySem.W.kitx_own (cl.get _) cl.hd ha hn htk hm) I.kIn J e (fun z=>nomatch z) h
end
end L2
namespace L2
open PySem PySem.Spec PyProof.Rows
structure Room (k:Nat) (A:Around):Prop where
 hd:A.handled=none
 dp:A.depth+3*k+5<recursionLimit
 un:A.units+16*k+200<cLine
theorem Room.mono {j k:Nat}{A:Around}(r:Room k A) (h:j≤k):Room j A:=⟨r.hd,by have:=r.dp; lia,by have:=r.un; lia⟩
theorem Room.deeper {k:Nat}{A:Around}(r:Room (k+1) A) (env:Env):Room k (A.deeper env) :=
 ⟨r.hd,by have:=r.dp; show A.depth+1+3*k+5<_; lia,by have:=r.un; show A.units+3+16*k+200<_; lia⟩
theorem Room.depth {k:Nat}{A:Around}(r:Room k A):A.depth<recursionLimit:=by have:=r.dp; lia
theorem Room.units {k:Nat}{A:Around}(r:Room k A):A.units+64<cLine:=by have:=r.un; lia
noncomputable def tNil:TA:=fun _ H Q=>Q [] H
noncomputable def tCons (ta:TE) (tr:TA):TA:=fun σ H Q=>ta σ H fun x H1=>tr σ H1 fun xs H2=>Q (x::xs) H2
section
variable {X:Cx}{e:Expr}{es:List Expr}{te:TE}{t:TA}{pos:Pos}
theorem zp_:PA X [] tNil:=fun _ _ _ _ H Q I h=>Calls.spliced_nil ⟨[],H,I,.nil,h⟩
theorem zb_ (ha:PE X e te) (hr:PA X es t) (hs:starEach (e::es) X.env=(false,eval e X.env)::starEach es X.env:=by rfl):PA X (e::es) (tCons te t):=by
 intro pos pins s σ H Q I h
 rw [hs]
 show wpAny _ _ (spliced ((false,eval e X.env)::backTo pos (starEach es X.env))) _ _ s
 refine Calls.spliced_cons (thn (ha pins s σ H _ I h) fun u s1 ⟨x,H1,I1,r1,q1⟩=>?_)
 exact thn (hr pos pins s1 σ H1 _ I1 q1) fun us s2 ⟨xs,H2,I2,r2,q2⟩=>⟨x::xs,H2,I2,.cons r1 r2,q2⟩
noncomputable def tTup (t:TA):TE:=fun σ H Q=>t σ H fun xs H1=>xs.length≤sizeLine∧∀ p,H1 p=none→Q (.ref p) (upd H1 p (.tup xs))
noncomputable def tLst (t:TA):TE:=fun σ H Q=>t σ H fun xs H1=>xs.length≤sizeLine∧∀ p,H1 p=none→Q (.ref p) (upd H1 p (.lst xs))
theorem zcT_ {x1} (h:PA X es t):PE X (.Tuple es x1 pos) (tTup t):=by
 intro pins s σ H Q I hq
 refine wpAny_Tuple_spliced (thn (h pos pins s σ H _ I hq) fun us s1 ⟨xs,H1,I1,r,z,q⟩=>⟨by rw [← r.length]; exact z,?_⟩)
 have hf:H1 s1.heap.objs.size=none:=I1.hok.fresh (Nat.le_refl _)
 refine ⟨.ref s1.heap.objs.size,upd H1 s1.heap.objs.size (.tup xs),I1.laid (t':=s1.toks) (fun b u e=>Heap.get?_push_of_some _ e) (Nat.le_refl _) ?_,rfl,q _ hf⟩
 exact ⟨z,us,r,⟨_,Heap.get?_push_size _ rfl,rfl,_,rfl⟩⟩
theorem zd0_ (h:PA X es t):PE X (.List es pos) (tLst t):=by
 intro pins s σ H Q I hq
 refine wpAny_List_spliced (thn (h pos pins s σ H _ I hq) fun us s1 ⟨xs,H1,I1,r,z,q⟩=>⟨by rw [← r.length]; exact z,?_⟩)
 have hf:H1 s1.heap.objs.size=none:=I1.hok.fresh (Nat.le_refl _)
 refine ⟨.ref s1.heap.objs.size,upd H1 s1.heap.objs.size (.lst xs),I1.laid (t':=s1.toks) (fun b u e=>Heap.get?_push_of_some _ e) (Nat.le_refl _) ?_,rfl,q _ hf⟩
 exact ⟨z,us,0,r,Heap.get?_push_size _ rfl⟩
end
noncomputable abbrev Sp:=List V→Hp→VK→XK→Prop
noncomputable abbrev CXT:=List Env→Hp→Shared→XK→Value→Shared→Prop
structure Env0 (P:Program) (w:World) (K:Fgg) (mg:Str→Option Value) (base:Heap) (A:Around) (outer:List Env) (s:Shared) (H:Hp):Prop where
 frames:A.frames=some outer
 mod:Mod K mg base
 bs:∀ b o,base.get? b=some o→s.heap.get? b=some o∧H b=none
 bsz:base.objs.size≤s.heap.objs.size
 funs:s.heap.FunFrames base outer
 frf:∀ b∈frs outer,H b=none
 hok:HOk P w H s.heap
 bare:AllBare s.gens
noncomputable def CE (outer:List Env) (P:Program) (w:World) (H:Hp) (s:Shared) (Q:VK) (u:Value) (s':Shared):Prop :=
 ∃ v H',s'.os=s.os∧AllBare s'.gens∧Un (frs outer) [] H H' s.heap s'.heap∧HOk P w H' s'.heap∧RelV v u∧Q v H'
noncomputable def CR (CX:CXT) (outer:List Env) (P:Program) (w:World) (H:Hp) (s:Shared) (Q:VK) (E:XK) (r:Result) (s':Shared):Prop :=
 match r with
 | .ok (.ret u)=>CE outer P w H s Q u s'
 | .ok _=>False
 | .error e=>CX outer H s E e s'
structure FnOk (P:Program) (w:World) (K:Fgg) (mg:Str→Option Value) (base:Heap) (CX:CXT) (k:Nat) (f:Addr) (fd:FuncData) (ps:List Str) (sp:Sp):Prop where
 len:∀ vs H Q E,sp vs H Q E→vs.length=ps.length
 run:∀ (A:Around) (outer:List Env) (s:Shared) (H:Hp) (args:Args) (us:List Value) (vs:List V) (Q:VK) (E:XK),Room k A→Env0 P w K mg base A outer s H→BindsTo s fd args (ps.zip us)→Vals vs us→sp vs H Q E →
  codeAny (model P w) A (.call (.ref f) args) (CR CX outer P w H s Q E) s
section
variable {X:Cx}{pins:Pnn}{σ:St}{H:Hp}{s s':Shared}
theorem Inv.env0 (I:Inv X pins σ H s):Env0 X.prog X.w X.K X.mg X.base X.A X.stack s H :=
 ⟨I.ok.frames,I.ok.mod,I.bs,Nat.le_trans I.ok.bsz I.sz,I.stack,I.stkFree,I.hok,I.bare⟩
theorem Inv.after {Q:VK}{u:Value}(I:Inv X pins σ H s) (h:CE X.stack X.prog X.w H s Q u s'):EP X pins σ Q u s':=by
 obtain ⟨v,H',os,bare,un,hok,r,q⟩:=h
 obtain ⟨hh,g,d,t,os'⟩:=s'
 obtain rfl:os'=s.os:=os
 exact ⟨v,H',I.call (h':=hh) (g':=g) (d':=d) (t':=t) (ch:=[]) un hok bare (fun b z=>absurd z (by simp)),r,q⟩
end
noncomputable def tCall (sp:Sp) (dvs:List V) (E:XK) (t:TA):TE:=fun σ H Q=>t σ H fun vs H1=>sp (vs++dvs) H1 Q E
noncomputable def Binds (K:Fgg) (fd:FuncData) (ps:List Str) (ds:List Value):Prop :=
 ∀ (s:Shared) (us:List Value),K.In s.heap→(us++ds).length=ps.length→BindsTo s fd ⟨us,[]⟩ (ps.zip (us++ds))
theorem Binds.all {K:Fgg}{fd:FuncData}{ps:List Str}(h:∀ us:List Value,us.length=ps.length→bindArgs fd ⟨us,[]⟩=pure (ps.zip us)):Binds K fd ps []:=fun s us _ hl=>by
 rw [List.append_nil] at hl ⊢
 exact .of_eq (h us hl)
noncomputable def Passes (CX:CXT) (X:Cx) (E:XK):Prop:=∀ (pins:Pnn) (σ:St) (H:Hp) (s:Shared) (e:Value) (s':Shared),Inv X pins σ H s→CX X.stack H s E e s'→X.xe e s'
section
variable {X:Cx}{CX:CXT}{k:Nat}{f C:Addr}{fd:FuncData}{ps:List Str}{sp:Sp}{dvs:List V}{ds:List Value}{E:XK}{x m:Str}{p pos apos:Pos}{e o:Expr}{es:List Expr}{ta:TE}{t:TA}
theorem zis_ {pins:Pnn}{σ:St}{H:Hp}{s:Shared}{Q:VK}{us:List Value}{vs:List V}(F:FnOk X.prog X.w X.K X.mg X.base CX k f fd ps sp) (hr:Room k X.A) (hb:Binds X.K fd ps ds) (hd:Vals dvs ds) (hx:Passes CX X E)
  (I:Inv X pins σ H s) (r:Vals vs us) (h:sp (vs++dvs) H Q E):wpAny (model X.prog X.w) X.A (call (.ref f) us) (EP X pins σ Q) X.xe s:=by
 have r2:Vals (vs++dvs) (us++ds):=r.append hd
 have hl:(us++ds).length=ps.length:=by rw [← r2.length]; exact F.len _ _ _ _ h
 refine wpAny_call (codeAny_mono (F.run X.A X.stack s H ⟨us,[]⟩ (us++ds) (vs++dvs) Q E hr I.env0 (hb s us I.kIn hl) r2 h) fun r s' hq=>?_)
 cases r with
 | error e=>exact hx pins σ H s e s' I hq
 | ok fl =>
  cases fl with
  | ret u=>exact I.after hq
  | next=>exact False.elim hq
  | brk=>exact False.elim hq
  | cont=>exact False.elim hq
theorem zh1_ (F:FnOk X.prog X.w X.K X.mg X.base CX k f fd ps sp) (hr:Room k X.A) (hg:Gl X x) (hm:X.mg x=some (.ref f)) (hk:PySem.W.keepIn X.K (.ref f)=true) (hb:Binds X.K fd ps ds) (hd:Vals dvs ds) (hx:Passes CX X E)
  (ha:PA X (e::es) t) (hdb:(x == ("__debug__" : Str))=false:=by decide) (he:starEach (e::es) X.env=(false,eval e X.env)::starEach es X.env:=by rfl) (hpl:(backTo pos (starEach es X.env)).any (·.1)=false:=by rfl) :
  PE X (.Call (.Name x p) (e::es) [] pos) (tCall sp dvs E t):=by
 intro pins s σ H Q I h
 refine wpAny_Call_Name_kw (zgG_ I hg hm ?_ hdb)
 refine PySem.W.callWith_K (h₀:=X.base) I.ok.mod.kin hk (thn (ha pos pins s σ H _ I h) fun us s1 ⟨vs,H1,I1,r,q⟩=>⟨I1.kIn,?_⟩) he hpl
 exact zis_ F hr hb hd hx I1 r q
end
section
variable {X:Cx}{CX:CXT}{k:Nat}{f C:Addr}{fd:FuncData}{ps ks:List Str}{sp:Sp}{E:XK}{x m:Str}{p pos apos kpos:Pos}{e o:Expr}{es:List Expr}{kws:List Keyword}{te ta:TE}{t tk:TA}{nm:Option Str}
variable {g:List Value→List Value→List Value}{gV:List V→List V→List V}
end
structure FnScope (N P:List Str) (sc:Scope):Prop where
 kind:sc.kind=.function
 co:sc.isCoroutine=false
 gen:sc.isGenerator=false
 nd:N.Nodup
 pre:N.take P.length=P
 par:∀ x∈P,sc.names.lookup x=some .local∨sc.names.lookup x=some .cell
 nofree:∀ y∈sc.names,y.2≠.free
theorem zc4_ {kindOf:Str→Option NameKind}{x:Str}:∀ {binds:List (Str×Value)}{m:Str→Option Value},(∀ v,(x,v)∉binds)→bindL kindOf binds m x=m x
 | [],_,_=>rfl
 | (n,v)::r,m,h=>by
  unfold bindL
  rw [zc4_ fun w hw=>h w (List.mem_cons_of_mem _ hw)]
  split
  ·have:x≠n:=by rintro rfl; exact h v List.mem_cons_self
   simp [this]
  ·rfl
theorem zdf_ {kindOf:Str→Option NameKind}{x:Str}:∀ {binds:List (Str×Value)}{m:Str→Option Value},(∀ v,(x,v)∉binds)→bindC kindOf binds m x=m x
 | [],_,_=>rfl
 | (n,v)::r,m,h=>by
  unfold bindC
  rw [zdf_ fun w hw=>h w (List.mem_cons_of_mem _ hw)]
  split
  ·rfl
  ·have:x≠n:=by rintro rfl; exact h v List.mem_cons_self
   simp [this]
theorem zc0_ {kindOf:Str→Option NameKind}{x:Str}{v:Value}:∀ {P:List Str}{vs:List Value}{i:Nat}{m:Str→Option Value},P.Nodup→P[i]?=some x→vs[i]?=some v→kindOf x=some .local →
  bindL kindOf (P.zip vs) m x=some v
 | [],_,_,_,_,h,_,_=>by simp at h
 | _::_,[],_,_,_,_,h,_=>by simp at h
 | p::P,w::vs,0,m,nd,h1,h2,hk=>by
  simp at h1 h2; subst h1; subst h2
  show bindL kindOf ((p,w)::P.zip vs) m p=_
  unfold bindL
  rw [zc4_ fun v hv=>(List.nodup_cons.mp nd).1 (List.of_mem_zip hv).1,if_pos hk]
  simp
 | p::P,w::vs,i+1,m,nd,h1,h2,hk=>by
  show bindL kindOf ((p,w)::P.zip vs) m x=_
  unfold bindL
  exact zc0_ (i:=i) (List.nodup_cons.mp nd).2 (by simpa using h1) (by simpa using h2) hk
theorem zc2_ {kindOf:Str→Option NameKind}{x:Str}{v:Value}:∀ {P:List Str}{vs:List Value}{i:Nat}{m:Str→Option Value},P.Nodup→P[i]?=some x→vs[i]?=some v→kindOf x≠some .local →
  bindC kindOf (P.zip vs) m x=some v
 | [],_,_,_,_,h,_,_=>by simp at h
 | _::_,[],_,_,_,_,h,_=>by simp at h
 | p::P,w::vs,0,m,nd,h1,h2,hk=>by
  simp at h1 h2; subst h1; subst h2
  show bindC kindOf ((p,w)::P.zip vs) m p=_
  unfold bindC
  rw [zdf_ fun v hv=>(List.nodup_cons.mp nd).1 (List.of_mem_zip hv).1,if_neg hk]
  simp
 | p::P,w::vs,i+1,m,nd,h1,h2,hk=>by
  show bindC kindOf ((p,w)::P.zip vs) m x=_
  unfold bindC
  exact zc2_ (i:=i) (List.nodup_cons.mp nd).2 (by simpa using h1) (by simpa using h2) hk
noncomputable def start (N:List Str) (vs:List V):St:=vs.map some++List.replicate (N.length-vs.length) none
noncomputable def cxOf (CX:CXT) (P:Program) (w:World) (K:Fgg) (mg:Str→Option Value) (base:Heap) (N:List Str) (qual:Str) (scope:Scope) (f:Addr) (cd:Value) (A:Around) (outer:List Env) (s:Shared) (H:Hp) (E:XK):Cx where
 prog:=P
 w:=w
 K:=K
 mg:=mg
 base:=base
 A:=A.deeper (envOfC qual scope s.heap.objs.size f cd)
 N:=N
 s₀:=s
 H₀:=H
 env:=envOfC qual scope s.heap.objs.size f cd
 outer:=outer
 stack:=envOfC qual scope s.heap.objs.size f cd::outer
 ex:=[]
 calm:=true
 fn:=fun _=>true
 pn:=[]
 xe:=fun e s'=>wpAny (model P w) (A.deeper (envOfC qual scope s.heap.objs.size f cd)) (leaving (envOfC qual scope s.heap.objs.size f cd) e) (fun _ s''=>CX outer H s E e s'') (fun e' s''=>CX outer H s E e' s'') s'
theorem zd5_ {sc:Scope}{n:Nat}{x:Str}(h:sc.names.lookup x=some .cell):∃ c,(cellsFrom n sc.names []).lookup x=some c:=by
 have q:=PySem.W.cellsFrom_some sc.names n [] (.inl h)
 exact Option.isSome_iff_exists.mp q
theorem zeQ_ {CX:CXT}{P:Program}{w:World}{K:Fgg}{mg:Str→Option Value}{base:Heap}{N ps:List Str}{qual:Str}{scope:Scope}{f:Addr}{cd:Value}{A:Around}{outer:List Env}{s s1:Shared}{H:Hp}{E:XK}{us:List Value}{vs:List V}
  (S:FnScope N ps scope) (hd:A.handled=none) (e0:Env0 P w K mg base A outer s H) (hl:vs.length=ps.length) (r:Vals vs us)
  (x:InCallC s s.heap.objs.size (bindL (envOfC qual scope s.heap.objs.size f cd).kindOf (ps.zip us) fun _=>none) (cellsFrom (s.heap.objs.size+1) scope.names []) (bindC (envOfC qual scope s.heap.objs.size f cd).kindOf (ps.zip us) fun _=>none) s1) :
  Inv (cxOf CX P w K mg base N qual scope f cd A outer s H E) [] (start N vs) H s1:=by
 have hpl:ps.length≤N.length:=by have:=congrArg List.length S.pre; rw [List.length_take] at this; lia
 obtain ⟨h1,tk,rfl,hk⟩:=x.done
 have noA:∀ b:Addr,b∉(cxOf CX P w K mg base N qual scope f cd A outer s H E).ex:=fun b z=>absurd (show b∈([]:List Addr) from z) (by simp)
 refine ⟨⟨e0.mod,S.kind,rfl,rfl,Nat.le_refl _,fun y z c h1 h2=>?_,fun y hy=>?_,fun y c _ h=>?_,fun _=>hd,Around.frames_deeper e0.frames,.inr ⟨rfl,rfl⟩,fun b z=>absurd z (noA b),e0.bs,e0.bsz,fun b _ _=>noA b,fun b z=>absurd z (noA b),e0.funs,e0.frf⟩,
  rfl,e0.bare,Un.kept hk,⟨_,x.toInCall.ns,fun i y v h1 h2 h3=>?_⟩,fun y c h=>⟨_,x.cell y c h⟩,e0.hok.fresh (Nat.le_refl _),fun y c h=>?_,fun p hp=>absurd (show p∈([]:Pnn) from hp) (by simp),e0.hok.kept hk,?_⟩
 ·exact name_of_addr x.apart (PySem.mem_of_lookup h1) (PySem.mem_of_lookup h2)
 ·have hy:scope.names.lookup y=some .cell∨scope.names.lookup y=some .free:=hy
  rcases hy with hy | hy
  ·exact zd5_ hy
  ·exact absurd rfl (S.nofree _ (PySem.mem_of_lookup hy))
 ·exact Nat.le_of_lt (x.above y c (PySem.mem_of_lookup h))
 ·have hi:i<vs.length:=by
   unfold start at h2
   by_cases hi:i<vs.length
   ·exact hi
   ·rw [List.getElem?_append_right (by simpa using hi)] at h2
    rw [List.getElem?_replicate] at h2
    split at h2<;>cases h2
  have ha:vs[i]?=some v:=by
   unfold start at h2
   rw [List.getElem?_append_left (by simpa using hi),List.getElem?_map] at h2
   cases e:vs[i]? with
   | none=>rw [e] at h2; cases h2
   | some a=>rw [e] at h2; cases h2; rfl
  obtain ⟨u,hu,rv⟩:=r.get ha
  have hp:ps[i]?=some y:=by
   rw [← S.pre,List.getElem?_take_of_lt (by lia)]; exact h1
  have ndP:ps.Nodup:=by rw [← S.pre]; exact S.nd.sublist (List.take_sublist _ _)
  refine ⟨u,rv,?_⟩
  rcases S.par y (List.mem_of_getElem? hp) with k | k
  ·exact .inl ⟨k,zc0_ ndP hp hu k⟩
  ·obtain ⟨c,e⟩:=zd5_ (n:=s.heap.objs.size+1) k
   refine .inr ⟨.inl k,c,e,?_⟩
   have q:=x.cell y c e
   rw [zc2_ ndP hp hu (by show scope.names.lookup y≠_; rw [k]; decide)] at q
   exact q
 ·exact e0.hok.fresh (Nat.le_of_lt (x.above y c (PySem.mem_of_lookup h)))
 ·unfold start
  show _=N.length
  rw [List.length_append,List.length_map,List.length_replicate]
  lia
theorem fn_of {CX:CXT}{P:Program}{w:World}{K:Fgg}{mg:Str→Option Value}{base:Heap}{k:Nat}{f:Addr}{name qual:Str}{params:Arguments}{body:List Stmt}{scope:Scope}{dV kV doc pm cdv ct oc:Value}{an od:Option Addr}
  {osl:Array (Option Value)}{N ps:List Str}{sp:Sp}(lk:K.lookup f=some ⟨oc,od,.func (PySem.W.fnOf name qual params body scope dV kV doc pm an cdv ct),osl⟩) (hcd:PySem.W.codeIn K cdv qual=true) (S:FnScope N ps scope)
  (len:∀ vs H Q E,sp vs H Q E→vs.length=ps.length)
  (hbody:∀ (A:Around) (outer:List Env) (s:Shared) (H:Hp) (vs:List V) (Q:VK) (E:XK),Room k (A.deeper (envOfC qual scope s.heap.objs.size f cdv))→sp vs H Q E →
   ∃ t,PSs (cxOf CX P w K mg base N qual scope f cdv A outer s H E) body t∧t { nx:=fun _ H'=>Q .non H',rt:=Q } (start N vs) H) :
  FnOk P w K mg base CX (k+1) f (PySem.W.fnOf name qual params body scope dV kV doc pm an cdv ct) ps sp:=by
 refine ⟨len,fun A outer s H args us vs Q E hr e0 hb r hsp=>?_⟩
 have hl:=len _ _ _ _ hsp
 have KX:K.In s.heap:=e0.mod.kin.keeps fun b o e=>(e0.bs b o e).1
 have lim:s.heap.NoLimit:=e0.mod.nolimit.keeps fun b o e=>(e0.bs b o e).1
 have hkind:∀ y∈ps.zip us,scope.names.lookup y.1=some .local∨(scope.names.lookup y.1=some .cell∧((cellsFrom (s.heap.objs.size+1) scope.names []).lookup y.1).isSome=true):=fun ⟨n,v⟩ hy=>by
  rcases S.par n (List.of_mem_zip hy).1 with q | q
  ·exact .inl q
  ·exact .inr ⟨q,PySem.W.cellsFrom_some _ _ _ (.inl q)⟩
 refine codeAny_call_function hr.depth (KX _ _ lk) rfl S.co S.gen rfl (PySem.W.codeRec_of KX hcd) (hb _ _ _ _ ?_)
 refine wpAny_newFunctionEnv_cells S.kind hkind fun env he s1 x=>?_
 subst he
 refine ⟨lim.keeps x.toInCall.keep,codeAny_func ?_⟩
 obtain ⟨t,ht,hq⟩:=hbody A outer s H vs Q E (hr.deeper _) hsp
 have I:Inv (cxOf CX P w K mg base N qual scope f cdv A outer s H E) [] (start N vs) H s1:=zeQ_ S hr.hd e0 hl r x
 refine wpAny_mono (ht [] s1 (start N vs) H _ I hq) (fun fl s' hs=>?_) fun e s' hs=>hs
 have fin:∀ {σ':St}{H':Hp}{v:V}{u:Value},Inv (cxOf CX P w K mg base N qual scope f cdv A outer s H E) [] σ' H' s'→RelV v u→Q v H'→CE outer P w H s Q u s' :=
  fun {σ' H' v u} J rv q=>⟨v,H',J.os,J.bare,J.base,J.hok,rv,q⟩
 cases fl with
 | ret u =>
  obtain ⟨v,σ',H',J,rv,q⟩:=hs
  exact fin J rv q
 | next =>
  obtain ⟨σ',H',J,q⟩:=hs
  exact fin (v:=V.non) (u:=Value.none) J rfl q
 | brk =>
  obtain ⟨_,_,_,q⟩:=hs
  exact False.elim q
 | cont =>
  obtain ⟨_,_,_,q⟩:=hs
  exact False.elim q
end L2
namespace L2
open PySem PySem.Spec PyProof.Rows
section
variable {X:Cx}{x:Str}{p pos:Pos}{e:Expr}{es:List Expr}{t:TA}{id T:String}{r:List V→Hp→VK→Prop}
noncomputable def tCB (r:List V→Hp→VK→Prop) (t:TA):TE:=fun σ H Q=>t σ H fun vs H1=>r vs H1 Q
theorem zfX_ (hc:CallR X (.builtin id) r) (hg:Gl X x) (hm:X.mg x=none) (hv:bootBuiltins x=some (.builtin id)) (ha:PA X (e::es) t) (hn:x ≠ "__name__" := by decide) (hdb:(x == ("__debug__" : Str))=false:=by decide)
  (he:starEach (e::es) X.env=(false,eval e X.env)::starEach es X.env:=by rfl) (hpl:(backTo pos (starEach es X.env)).any (·.1)=false:=by rfl):PE X (.Call (.Name x p) (e::es) [] pos) (tCB r t):=by
 intro pins s σ H Q I h
 refine wpAny_Call_Name_kw (zef_ I hg hm hv ?_ hn hdb)
 exact PyProof.Rows.callWith_builtin1 (thn (ha pos pins s σ H _ I h) fun us s1 ⟨vs,H1,I1,r1,q1⟩=>hc pins s1 σ H1 vs us Q I1 r1 q1) he hpl
theorem zeS_ (hc:CallR X (.type T) r) (hg:Gl X x) (hm:X.mg x=none) (hv:bootBuiltins x=some (.type T)) (ha:PA X (e::es) t) (hn:x ≠ "__name__" := by decide) (hdb:(x == ("__debug__" : Str))=false:=by decide)
  (he:starEach (e::es) X.env=(false,eval e X.env)::starEach es X.env:=by rfl) (hpl:(backTo pos (starEach es X.env)).any (·.1)=false:=by rfl):PE X (.Call (.Name x p) (e::es) [] pos) (tCB r t):=by
 intro pins s σ H Q I h
 refine wpAny_Call_Name_kw (zef_ I hg hm hv ?_ hn hdb)
 exact PyProof.Rows.callWith_type1 (thn (ha pos pins s σ H _ I h) fun us s1 ⟨vs,H1,I1,r1,q1⟩=>hc pins s1 σ H1 vs us Q I1 r1 q1) he hpl
end
end L2
namespace HT
open PySem PyProof.Rows
noncomputable def lexLt:List Int→List Int→Bool
 | [],[]=>false
 | [],_::_=>true
 | _::_,[]=>false
 | x::xs,y::ys=>if x=y then lexLt xs ys else decide (x<y)
theorem lexLt_cons (x y:Int) (xs ys:List Int):lexLt (x::xs) (y::ys)=if x=y then lexLt xs ys else decide (x<y):=rfl
theorem eqAt_int (A:Around) (s:Shared) (a:Int) (t:Tok) (c:Int) (u:Tok):∃ e,SeqAt.EqAt A s (.int a t) (.int c u) e∧(e=true↔a=c) :=
 ⟨(a == c),SeqAt.EqAt.int_int a t c u,by simp⟩
theorem rcLt_int (A:Around) (s:Shared) (a:Int) (t:Tok) (c:Int) (u:Tok) (prog:Program) (w:World) (E:Value→Shared→Prop) (Q:Value→Shared→Prop) (h:Q (.bool (decide (a<c))) s) :
  wpAny (model prog w) A (richCompare .Lt (.int a t) (.int c u)) Q E s :=
 (PyProof.Rows.lt_int h:wpAny (model prog w) A (compareOp .Lt (.int a t) (.int c u)) Q E s)
section
open PySem.SeqAt
open PySem.AutoSeq1 (wpAny_loadPart')
open PySem.MeetsSeq PySem.MeetsSeq2 PySem.MeetsSeq3
end
section
variable {prog:Program}{w:World}{A:Around}{E:Value→Shared→Prop}{s:Shared}
noncomputable def sIx (n d:Nat):Option Int→Nat
 | none=>d
 | some v=>if v<0 then (v+(n:Int)).toNat else min v.toNat n
theorem sIx_le (n d:Nat) (hd:d≤n) (o:Option Int):sIx n d o≤n:=by
 cases o with
 | none=>exact hd
 | some v =>
  show (if v<0 then (v+(n:Int)).toNat else min v.toNat n)≤n
  by_cases hv:v<0
  ·rw [if_pos hv]; lia
  ·rw [if_neg hv]; exact Nat.min_le_right _ _
end
end HT
namespace L2
open PySem PySem.Spec PyProof.Rows
noncomputable abbrev TO:=St→Hp→(Option Int→Hp→Prop)→Prop
noncomputable def PO (X:Cx) (e:Option Expr) (t:TO):Prop :=
 ∀ (pins:Pnn) (s:Shared) (σ:St) (H:Hp) (Q:Option Int→Hp→Prop),Inv X pins σ H s→t σ H Q →
  wpAny (model X.prog X.w) X.A (evalPart e X.env) (fun u s'=>∃ o H',Inv X pins σ H' s'∧IsPart u o∧Q o H') X.xe s
noncomputable def tNoPart:TO:=fun _ H Q=>Q none H
theorem zcm_ {ns:List Int}:∀ {us:List Value},Vals (ns.map V.int) us→IntsAre us ns:=by
 induction ns with
 | nil=>intro us r; rw [List.map_nil] at r; cases r; exact .nil
 | cons n ns ih =>
  intro us r
  rw [List.map_cons] at r
  cases r with
  | cons r1 r2 =>
   obtain ⟨t,e⟩:=r1
   subst e
   exact .cons n t (ih r2)
section
variable {X:Cx}{e:Expr}{te:TE}{lo hi:Option Expr}{tl th:TO}{pos p2:Pos}
theorem zfw_:PO X none tNoPart:=by
 intro pins s σ H Q I h
 rw [evalPart_none]
 exact wpAny_pure ⟨none,H,I,.none,h⟩
noncomputable def SlR (X:Cx) (r:V→Option Int→Option Int→Hp→VK→Prop):Prop :=
 ∀ (pins:Pnn) (s:Shared) (σ:St) (H:Hp) (x:V) (v vl vu:Value) (lo hi:Option Int) (sl:Addr) (Q:VK),Inv X pins σ H s→RelV x v→s.heap.IsSliceOf sl vl vu .none→IsPart vl lo→IsPart vu hi→r x lo hi H Q →
  ∃ T id,typeLookup (.type T) "__getitem__" = pure (some (.builtin id))∧s.TypeIs v T∧wpAny (model X.prog X.w) X.A (getItem v (.ref sl)) (EP X pins σ Q) X.xe s
noncomputable def tSl (r:V→Option Int→Option Int→Hp→VK→Prop) (te:TE) (tl th:TO):TE:=fun σ H Q=>te σ H fun x H1=>tl σ H1 fun l H2=>th σ H2 fun u H3=>r x l u H3 Q
theorem zcr_ {r:V→Option Int→Option Int→Hp→VK→Prop}(hr:SlR X r) (he:PE X e te) (hl:PO X lo tl) (hu:PO X hi th):PE X (.Subscript e (.Slice lo hi none p2) pos) (tSl r te tl th):=by
 intro pins s σ H Q I h
 refine Subscript_ (thn (he pins s σ H _ I h) fun v s1 ⟨x,H1,I1,r1,q1⟩=>?_)
 refine wpAny_Slice (thn (hl pins s1 σ H1 _ I1 q1) fun vl s2 ⟨l,H2,I2,pl,q2⟩=>thn (hu pins s2 σ H2 _ I2 q2) fun vu s3 ⟨u,H3,I3,pu,q3⟩=>?_)
 rw [evalPart_none]
 refine wpAny_pure ?_
 have I4:Inv X pins σ H3 { s3 with heap:=s3.heap.push { cls:=.type "slice",data:=.fields #[vl,vu,.none] } }:=I3.kept (t':=s3.toks) fun b ob q=>Heap.get?_push_of_some _ q
 obtain ⟨T,id,hT,ht,hg⟩:=hr pins { s3 with heap:=s3.heap.push { cls:=.type "slice",data:=.fields #[vl,vu,.none] } } σ H3 x v vl vu l u s3.heap.objs.size Q I4 r1 (Heap.IsSliceOf.new ..) pl pu q3
 show wpAny (model X.prog X.w) X.A (subscriptTail e (.Slice lo hi none p2) v (.ref s3.heap.objs.size)) (EP X pins σ Q) X.xe { s3 with heap:=s3.heap.push { cls:=.type "slice",data:=.fields #[vl,vu,.none] } }
 exact tail_any (ops:=[.ref s3.heap.objs.size,v]) ht hT hg (by with_unfolding_all rfl)
noncomputable def cutV (xs:List V) (lo hi:Option Int):List V:=(xs.drop (HT.sIx xs.length 0 lo)).take (HT.sIx xs.length xs.length hi-HT.sIx xs.length 0 lo)
theorem zdC_ (xs:List V) (lo hi:Option Int):(cutV xs lo hi).length≤xs.length:=by
 unfold cutV
 rw [List.length_take,List.length_drop]
 lia
end
end L2
namespace L2
open PySem PySem.Spec PyProof.Rows
noncomputable def ixN (n:Nat) (i:Int):Option Nat:=if 0≤i then (if i<n then some i.toNat else none) else if -(n:Int)≤i then some (i+n).toNat else none
noncomputable def atI {α:Type}(xs:List α) (i:Int):Option α:=(ixN xs.length i).bind fun j=>xs[j]?
theorem zh7_ {n:Nat}{i:Int}{j:Nat}(h:ixN n i=some j):seqIndex? i n=some j∧j<n ∧ -(n:Int)≤i∧i<n:=by
 unfold ixN at h
 by_cases h0:0≤i
 ·rw [if_pos h0] at h
  by_cases h1:i<n
  ·rw [if_pos h1] at h
   have e:i.toNat=j:=Option.some.inj h
   exact ⟨by rw [seqIndex_of h0 h1,e],by lia,by lia,h1⟩
  ·rw [if_neg h1] at h; cases h
 ·rw [if_neg h0] at h
  by_cases h1 : -(n:Int)≤i
  ·rw [if_pos h1] at h
   have e:(i+n).toNat=j:=Option.some.inj h
   exact ⟨by rw [seqIndex_neg (by lia) h1,e],by lia,h1,by lia⟩
  ·rw [if_neg h1] at h; cases h
theorem zej_ {α:Type}{xs:List α}{i:Int}{v:α}(h:atI xs i=some v):∃ j,seqIndex? i xs.length=some j∧xs[j]?=some v∧j<xs.length ∧ -(xs.length:Int)≤i∧i<xs.length:=by
 unfold atI at h
 cases e:ixN xs.length i with
 | none=>rw [e] at h; cases h
 | some j =>
  rw [e] at h
  obtain ⟨h1,h2,h3,h4⟩:=zh7_ e
  exact ⟨j,h1,h,h2,h3,h4⟩
noncomputable def PlainIx (b:Expr):Prop:=∀ o i,subscripted b false o i=operate [o,i] (getItem o i)
noncomputable def IxR (X:Cx) (r:R2):Prop :=
 ∀ (value slice:Expr) (pins:Pnn) (s:Shared) (σ:St) (H:Hp) (x y:V) (v u:Value) (Q:VK),Inv X pins σ H s→RelV x v→RelV y u→r x y H Q →
  subscripted slice false v u=operate [v,u] (getItem v u)→wpAny (model X.prog X.w) X.A (subscriptTail value slice v u) (EP X pins σ Q) X.xe s
noncomputable def MtR (X:Cx) (id:String) (r:V→List V→Hp→VK→Prop):Prop :=
 ∀ (pins:Pnn) (s:Shared) (σ:St) (H:Hp) (x:V) (xs:List V) (v:Value) (us:List Value) (Q:VK),Inv X pins σ H s→RelV x v→Vals xs us→r x xs H Q →
  wpAny (model X.prog X.w) X.A (call (.builtin id) (v::us)) (EP X pins σ Q) X.xe s
section
variable {X:Cx}{a b:Expr}{ta tb:TE}{pos:Pos}
theorem zaG_ {r:R2}(hr:IxR X r) (ha:PE X a ta) (hb:PE X b tb) (hs:PlainIx b):PE X (.Subscript a b pos) (tOp r ta tb):=by
 intro pins s σ H Q I h
 exact Subscript_ (binT ha hb I h fun v u s2 x y H2 I2 rx ry q=>hr a b pins s2 σ H2 x y v u Q I2 rx ry q (hs _ _))
noncomputable def rIxL (K:Fgg):R2:=fun x y H Q=>∃ p xs i v,x=.ref p∧y=.int i∧SqL K H p xs∧atI xs i=some v∧Q v H
noncomputable def rIxT (K:Fgg):R2:=fun x y H Q=>∃ p xs i v,x=.ref p∧y=.int i∧SqT K H p xs∧atI xs i=some v∧Q v H
noncomputable def rIxS:R2:=fun x y H Q=>∃ z i c,x=.str z∧y=.int i∧z.length≤sizeLine∧atI z.cps.toList i=some c∧Q (.str ⟨#[c]⟩) H
theorem zhH_:IxR X (rIxL X.K):=by
 intro value slice pins s σ H x y v u Q I rx ry h hs
 obtain ⟨p,xs,i,z,rfl,rfl,hq,he,q⟩:=h
 cases rx
 obtain ⟨t,rfl⟩:=ry
 obtain ⟨its,r,pl,hz⟩:=I.list hq
 obtain ⟨j,h1,h2,h3,h4,h5⟩:=zej_ he
 obtain ⟨w,ew,rw'⟩:=r.get h2
 have hl:=r.length
 have hn:=line63
 have fin:EP X pins σ Q w s:=⟨z,H,I,rw',q⟩
 by_cases h0:0≤i
 ·have hj:i.toNat=j:=by
   rw [seqIndex_of h0 h5] at h1
   exact Option.some.inj h1
  exact item_listR pl.isList h0 (by lia) (by rw [hj]; simpa using ew) fin hs
 ·have hj:(i+(its.toArray.size:Int)).toNat=j:=by
   rw [seqIndex_neg (by lia) h4] at h1
   rw [List.size_toArray,← hl]
   exact Option.some.inj h1
  exact subscriptTail_builtinR (x:=w) pl.isList.typeIs slot_list_getitem.lookup
   (wpAny_getItem_list_neg (Q:=fun r s'=>r=w∧EP X pins σ Q r s') pl.isList (by lia) (by rw [List.size_toArray]<;>lia) (by lia) (by rw [hj]; simpa using ew) ⟨rfl,fin⟩) hs
theorem zjj_:IxR X (rIxT X.K):=by
 intro value slice pins s σ H x y v u Q I rx ry h hs
 obtain ⟨p,xs,i,z,rfl,rfl,hq,he,q⟩:=h
 cases rx
 obtain ⟨t,rfl⟩:=ry
 obtain ⟨its,r,pl,hz⟩:=I.tuple hq
 obtain ⟨j,h1,h2,h3,h4,h5⟩:=zej_ he
 obtain ⟨w,ew,rw'⟩:=r.get h2
 have hl:=r.length
 have hn:=line63
 have fin:EP X pins σ Q w s:=⟨z,H,I,rw',q⟩
 exact subscriptTail_builtinR (x:=w) pl.typeIs slot_tuple_getitem.lookup
  (getItem_tuple (j:=j) (Q:=fun r s'=>r=w∧EP X pins σ Q r s') pl (by lia) (by lia) (by rw [List.size_toArray,← hl]; exact h1) (by simpa using ew) ⟨rfl,fin⟩) hs
theorem ziu_:IxR X rIxS:=by
 intro value slice pins s σ H x y v u Q I rx ry h hs
 obtain ⟨z,i,c,rfl,rfl,hz,he,q⟩:=h
 obtain ⟨t,rfl⟩:=rx
 obtain ⟨t',rfl⟩:=ry
 obtain ⟨j,h1,h2,h3,h4,h5⟩:=zej_ he
 have hl:z.cps.toList.length=z.length:=by simp [Str.length]
 rw [hl] at h1 h4 h5
 have hn:=line63
 exact tail_any (typeIs_str s z t) slot_str_getitem.lookup (getItem_str (c:=c) (by
  have e1:decide (i < -(2 ^ 63:Int))=false:=decide_eq_false (by lia)
  have e2:decide (i ≥ 2 ^ 63)=false:=decide_eq_false (by lia)
  rw [e1,e2,Bool.or_false]) (by rw [h1]; simpa using h2) ⟨.str ⟨#[c]⟩,H,I.tok _,⟨_,rfl⟩,q⟩) hs
theorem zcX_ (lo hi:Option Int) (n:Nat):(sliceBounds lo hi none n).1=((HT.sIx n 0 lo:Nat):Int)∧(sliceBounds lo hi none n).2.1=((HT.sIx n n hi:Nat):Int)∧(sliceBounds lo hi none n).2.2=1:=by
 refine ⟨?_,?_,rfl⟩
 ·cases lo with
  | none=>simp [sliceBounds,HT.sIx]
  | some i =>
   simp only [sliceBounds,HT.sIx,Option.getD_none,show (1:Int) > 0 by decide,if_true]
   by_cases h:i<0
   ·simp only [h,if_true]<;>lia
   ·simp only [h,if_false]<;>lia
 ·cases hi with
  | none=>simp [sliceBounds,HT.sIx]
  | some i =>
   simp only [sliceBounds,HT.sIx,Option.getD_none,show (1:Int) > 0 by decide,if_true]
   by_cases h:i<0
   ·simp only [h,if_true]<;>lia
   ·simp only [h,if_false]<;>lia
theorem zca_ (its:List Value) (lo hi:Option Int):slicePick its.toArray lo hi none=((its.drop (HT.sIx its.length 0 lo)).take (HT.sIx its.length its.length hi-HT.sIx its.length 0 lo)).toArray:=by
 obtain ⟨h1,h2,h3⟩:=zcX_ lo hi its.toArray.size
 unfold slicePick
 rw [h1,h2,h3]
 simp only [sliceRange_one,pick_run,List.size_toArray]<;>rfl
noncomputable def rSlL (K:Fgg):V→Option Int→Option Int→Hp→VK→Prop:=fun x lo hi H Q=>∃ a xs,x=.ref a∧SqL K H a xs∧∀ p,H p=none→Q (.ref p) (upd H p (.lst (cutV xs lo hi)))
theorem zhn_:SlR X (rSlL X.K):=by
 intro pins s σ H x v vl vu lo hi sl Q I rx hs pl pu h
 obtain ⟨a,xs,rfl,hx,q⟩:=h
 cases rx
 obtain ⟨its,r,ht,hz⟩:=I.list hx
 have hlen:=r.length
 refine ⟨"list",_,slot_list_getitem.lookup,ht.isList.typeIs,?_⟩
 refine wpAny_getItem_list_slice ht.isList hs pl pu .none (by simp) ?_ (by rw [List.size_toArray]<;>lia)
 rw [zca_,← hlen]
 refine ⟨.ref s.heap.objs.size,_,I.laid (t':=s.toks) (o:=.lst (cutV xs lo hi)) (fun b ob q=>Heap.get?_push_of_some _ q) (Nat.le_refl _) ?_,rfl,q _ (I.hok.fresh (Nat.le_refl _))⟩
 exact ⟨Nat.le_trans (zdC_ xs lo hi) hz,_,0,(r.drop (HT.sIx xs.length 0 lo)).take (HT.sIx xs.length xs.length hi-HT.sIx xs.length 0 lo),Heap.get?_push_size _ rfl⟩
noncomputable def flatV:V→Bool
 | .non=>true
 | .bl _=>true
 | .int _=>true
 | .str _=>true
 | _=>false
noncomputable def eqV:V→V→Bool
 | .non,.non=>true
 | .bl a,.bl b=>a == b
 | .bl a,.int b=>(if a then 1 else 0) == b
 | .int a,.bl b=>a == (if b then 1 else 0)
 | .int a,.int b=>a == b
 | .str a,.str b=>a == b
 | _,_=>false
theorem zgn_ {A:Around}{s:Shared}{y x:V}{u v:Value}(ry:RelV y u) (rx:RelV x v) (fy:flatV y=true) (fx:flatV x=true):SeqAt.EqAt A s u v (eqV y x):=by
 cases y with
 | non =>
  cases ry
  cases x with
  | non=>cases rx; exact SeqAt.EqAt.same _
  | bl b=>cases rx; exact SeqAt.EqAt.none_bool b
  | int b=>obtain ⟨t,rfl⟩:=rx; exact SeqAt.EqAt.none_int b t
  | str b=>obtain ⟨t,rfl⟩:=rx; exact SeqAt.EqAt.none_str b t
  | _=>exact absurd (show false=true from fx) Bool.false_ne_true
 | bl a =>
  cases ry
  cases x with
  | non=>cases rx; exact SeqAt.EqAt.bool_none a
  | bl b=>cases rx; exact SeqAt.EqAt.bool_bool a b
  | int b=>obtain ⟨t,rfl⟩:=rx; exact SeqAt.EqAt.bool_int a b t
  | str b=>obtain ⟨t,rfl⟩:=rx; exact SeqAt.EqAt.bool_str a b t
  | _=>exact absurd (show false=true from fx) Bool.false_ne_true
 | int a =>
  obtain ⟨t',rfl⟩:=ry
  cases x with
  | non=>cases rx; exact SeqAt.EqAt.int_none a t'
  | bl b=>cases rx; exact SeqAt.EqAt.int_bool a t' b
  | int b=>obtain ⟨t,rfl⟩:=rx; exact SeqAt.EqAt.int_int a t' b t
  | str b=>obtain ⟨t,rfl⟩:=rx; exact SeqAt.EqAt.int_str a t' b t
  | _=>exact absurd (show false=true from fx) Bool.false_ne_true
 | str a =>
  obtain ⟨t',rfl⟩:=ry
  cases x with
  | non=>cases rx; exact SeqAt.EqAt.str_none a t'
  | bl b=>cases rx; exact SeqAt.EqAt.str_bool a t' b
  | int b=>obtain ⟨t,rfl⟩:=rx; exact SeqAt.EqAt.str_int a t' b t
  | str b=>obtain ⟨t,rfl⟩:=rx; exact SeqAt.EqAt.str_str a t' b t
  | _=>exact absurd (show false=true from fx) Bool.false_ne_true
 | _=>exact absurd (show false=true from fy) Bool.false_ne_true
noncomputable def eqU (x:V) (u:Value):Bool:=match u with
 | .none=>eqV .non x
 | .bool b=>eqV (.bl b) x
 | .int i _=>eqV (.int i) x
 | .str z _=>eqV (.str z) x
 | _=>false
theorem zh6_ {x y:V}{u:Value}(r:RelV y u) (f:flatV y=true):eqU x u=eqV y x:=by
 cases y with
 | non=>cases r; rfl
 | bl b=>cases r; rfl
 | int i=>obtain ⟨t,rfl⟩:=r; rfl
 | str z=>obtain ⟨t,rfl⟩:=r; rfl
 | _=>exact absurd (show false=true from f) Bool.false_ne_true
theorem zdK_ {x:V}:∀ {xs:List V}{us:List Value},Vals xs us→xs.all flatV=true→us.any (eqU x)=xs.any fun y=>eqV y x
 | _,_,.nil,_=>rfl
 | y::xs,u::us,.cons r t,f=>by
  rw [List.all_cons,Bool.and_eq_true] at f
  rw [List.any_cons,List.any_cons,zh6_ r f.1,zdK_ t f.2]
theorem zcU_ {A:Around}{s:Shared}{x:V}{v:Value}(rx:RelV x v) (fx:flatV x=true):∀ {xs:List V}{us:List Value},Vals xs us→xs.all flatV=true→∀ u∈us,SeqAt.EqAt A s u v (eqU x u)
 | _,_,.nil,_=>fun u hu=>by cases hu
 | y::xs,u::us,.cons r t,f=>fun u' hu=>by
  rw [List.all_cons,Bool.and_eq_true] at f
  rcases List.mem_cons.mp hu with rfl | hu
  ·rw [zh6_ r f.1]; exact zgn_ r rx f.1 fx
  ·exact zcU_ rx fx t f.2 u' hu
noncomputable def inV (x:V) (xs:List V):Bool:=xs.any fun y=>eqV y x
noncomputable def rIn (K:Fgg) (neg:Bool):R2:=fun x y H Q=>∃ p xs,y=.ref p∧(SqL K H p xs∨SqT K H p xs)∧flatV x=true∧xs.all flatV=true∧Q (.bl (if neg then !inV x xs else inV x xs)) H
theorem zcL_:OpR X (compareOp .NotIn) (rIn X.K true):=by
 intro pins s σ H x y v u Q I rx ry h
 obtain ⟨p,xs,rfl,hq,fx,fs,q⟩:=h
 cases ry
 rcases hq with hq | hq
 ·obtain ⟨its,r,pl,hz⟩:=I.list hq
  refine SeqAt.notIn_listAt (eqU x) pl.isList (fun w hw=>zcU_ rx fx r fs w (by simpa using hw)) ⟨.bl _,H,I,rfl,?_⟩
  rw [show its.toArray.any (eqU x)=its.any (eqU x) by simp,zdK_ r fs]
  exact q
 ·obtain ⟨its,r,pl,hz⟩:=I.tuple hq
  refine SeqAt.notIn_tupleAt (eqU x) pl (fun w hw=>zcU_ rx fx r fs w (by simpa using hw)) ⟨.bl _,H,I,rfl,?_⟩
  rw [show its.toArray.any (eqU x)=its.any (eqU x) by simp,zdK_ r fs]
  exact q
theorem zcD_:CallR X (.builtin "len") (fun xs H Q=>∃ p ys,xs=[.ref p]∧(SqL X.K H p ys∨SqT X.K H p ys)∧Q (.int ys.length) H):=by
 intro pins s σ H xs us Q I r h
 obtain ⟨p,ys,rfl,hq,q⟩:=h
 obtain ⟨u,rfl,rx⟩:=vals1 r
 cases rx
 have hn:=line63
 rcases hq with hq | hq
 ·obtain ⟨its,r',pl,hz⟩:=I.list hq
  have hlen:=r'.length
  exact Calls.call_len_list pl.isList (by simp only [List.size_toArray]<;>lia) ⟨.int ys.length,H,I.tok _,⟨s.toks+1,by rw [List.size_toArray,hlen]⟩,q⟩
 ·obtain ⟨its,r',pl,hz⟩:=I.tuple hq
  have hlen:=r'.length
  exact len_tuple pl (by simp only [List.size_toArray]<;>lia) ⟨.int ys.length,H,I.tok _,⟨s.toks+1,by rw [List.size_toArray,hlen]⟩,q⟩
theorem zcG_:CallR X (.builtin "len") (fun xs H Q=>∃ z,xs=[.str z]∧z.length≤sizeLine∧Q (.int z.length) H):=by
 intro pins s σ H xs us Q I r h
 obtain ⟨z,rfl,hz,q⟩:=h
 obtain ⟨u,rfl,t,rfl⟩:=vals1 r
 have hn:=line63
 exact len_str (by lia) ⟨.int z.length,H,I.tok _,⟨_,rfl⟩,q⟩
theorem zcE_:CallR X (.type "list") (fun xs H Q=>∃ p ys,xs=[.ref p]∧(SqL X.K H p ys∨SqT X.K H p ys)∧∀ l,H l=none→Q (.ref l) (upd H l (.lst ys))):=by
 intro pins s σ H xs us Q I r h
 obtain ⟨p,ys,rfl,hq,q⟩:=h
 obtain ⟨u,rfl,rx⟩:=vals1 r
 cases rx
 have fin:∀ (its:List Value),Vals ys its→ys.length≤sizeLine→∀ (h':Heap) (c':Nat),(∀ b o',s.heap.get? b=some o'→h'.get? b=some o') →
   h'.get? s.heap.objs.size=some { cls:=.type "list",dict:=none,data:=.seq its.toArray c',slots:=#[] }→EP X pins σ Q (.ref s.heap.objs.size) { s with heap:=h' }:=fun its r' hz h' c' kp e =>
  ⟨.ref s.heap.objs.size,_,I.laid (t':=s.toks) kp (Nat.le_refl _) (show ObjOk X.prog X.w _ h' _ (.lst ys) from ⟨hz,its,c',r',e⟩),rfl,q _ (I.hok.fresh (Nat.le_refl _))⟩
 rcases hq with hq | hq
 ·obtain ⟨its,r',pl,hz⟩:=I.list hq
  have hlen:=r'.length
  obtain ⟨o,ho,hc,n,hd⟩:=pl.isList
  exact call_list_seq p (.inl rfl) ho hc hd (fun h' c' kp e=>fin its r' hz h' c' kp e) (by simp only [List.size_toArray]<;>lia)
 ·obtain ⟨its,r',pl,hz⟩:=I.tuple hq
  have hlen:=r'.length
  obtain ⟨o,ho,hc,n,hd⟩:=pl
  exact call_list_seq p (.inr rfl) ho hc hd (fun h' c' kp e=>fin its r' hz h' c' kp e) (by simp only [List.size_toArray]<;>lia)
noncomputable def tyV (K:Fgg) (T:String) (x:V) (H:Hp):Prop:=match x with
 | .str _=>T = "str"
 | .int _=>T = "int"
 | .ref p=>(T = "list" ∧ ∃ xs,SqL K H p xs)∨(T = "tuple" ∧ ∃ o,K.lookup p=some o∧o.cls=.type "tuple" ∧ o.dict=none) ∨
   (T = "dict" ∧ ((∃ kvs,H p=some (.dK kvs))∨∃ kvs,H p=some (.dT kvs)))∨(T = "set" ∧ ∃ S n,H p=some (.set S n))
 | _=>False
theorem ziL_ {pins:Pnn}{σ:St}{H:Hp}{s:Shared}{T:String}{x:V}{v:Value}(I:Inv X pins σ H s) (r:RelV x v) (ty:tyV X.K T x H) :
  s.TypeIs v T∧∀ a,v=.ref a→∃ ob,s.heap.get? a=some ob∧ob.dict=none:=by
 cases x with
 | str z =>
  obtain ⟨t,rfl⟩:=r
  cases (show T = "str" from ty)
  exact ⟨typeIs_str s z t,fun _ e=>nomatch e⟩
 | int i =>
  obtain ⟨t,rfl⟩:=r
  cases (show T = "int" from ty)
  exact ⟨typeIs_int s i t,fun _ e=>nomatch e⟩
 | ref p =>
  cases r
  rcases ty with ⟨rfl,xs,hq⟩ | ⟨rfl,o,hk,hc,hd⟩ | ⟨rfl,hk⟩ | ⟨rfl,S,n,hk⟩
  ·obtain ⟨its,_,pl,_⟩:=I.list hq
   refine ⟨pl.isList.typeIs,fun a e=>?_⟩
   cases e
   obtain ⟨o,n,e,c,hd,_⟩:=pl
   exact ⟨o,e,hd⟩
  ·refine ⟨⟨o,I.kIn p o hk,hc⟩,fun a e=>?_⟩
   cases e
   exact ⟨o,I.kIn _ o hk,hd⟩
  ·have z:∃ o,s.heap.get? p=some o∧o.ExactDict:=by
    rcases hk with ⟨kvs,hk⟩ | ⟨kvs,hk⟩
    ·obtain ⟨_,_,_,_,o,_,_,e,ex,_⟩:=I.hok p _ hk
     exact ⟨o,e,ex⟩
    ·obtain ⟨_,_,_,_,o,_,_,e,ex,_⟩:=I.hok p _ hk
     exact ⟨o,e,ex⟩
   obtain ⟨o,e,ex⟩:=z
   refine ⟨⟨o,e,ex.1⟩,fun a e2=>?_⟩
   cases e2
   exact ⟨o,e,ex.2.1⟩
  ·obtain ⟨o,_,_,_,e,ex,_⟩:=I.hok p _ hk
   refine ⟨⟨o,e,ex.1⟩,fun a e2=>?_⟩
   cases e2
   exact ⟨o,e,ex.2.1⟩
 | _=>exact False.elim ty
noncomputable def tBM (K:Fgg) (T:String) (r:V→List V→Hp→VK→Prop) (to:TE) (t:TA):TE:=fun σ H Q=>to σ H fun x H1=>tyV K T x H1∧t σ H1 fun xs H2=>r x xs H2 Q
variable {o e:Expr}{es:List Expr}{to:TE}{t:TA}{name:Str}{apos cpos:Pos}{T id:String}{r:V→List V→Hp→VK→Prop}
theorem zhk_ (pa:PlainAttrs T) (slot:Slot T name id) (hty:typeOf (.builtin id)=pure (.type "method_descriptor")) (hm:MtR X id r) (ho:PE X o to) (ha:PA X (e::es) t)
  (hbase:attributeBase o name X.env (eval o X.env)=eval o X.env:=by rfl)
  (hfew:((backTo cpos (starEach (e::es) X.env)).all (fun x=>!x.1) && (backToKw cpos (keywordEach [] X.env)).all (fun x=>x.1.isSome)
   && decide ((e::es).length+([]:List Keyword).length+(if ([]:List Keyword).isEmpty then 0 else 1)<30))=true:=by rfl)
  (hline:(apos.endLine == cpos.line)=true:=by rfl) (hs:starEach (e::es) X.env=(false,eval e X.env)::starEach es X.env:=by rfl) (hplain:(backTo cpos (starEach es X.env)).any (·.1)=false:=by rfl) :
  PE X (.Call (.Attribute o name apos) (e::es) [] cpos) (tBM X.K T r to t):=by
 intro pins s σ H Q I h
 refine wpAny_Call_method_late hbase hfew hline rfl (thn (ho pins s σ H _ I h) fun v s1 ⟨x,H1,I1,r1,ty,q1⟩=>?_)
 obtain ⟨h1,h2⟩:=ziL_ I1 r1 ty
 refine ⟨T,id,pa,slot,hty,h1,h2,?_⟩
 have hA:=ha cpos pins s1 σ H1 _ I1 q1
 rw [hs] at hA ⊢
 refine Calls.callWith_builtin (by show (false || (backTo cpos (starEach es X.env)).any (·.1))=false; rw [hplain]<;>rfl) (Calls.evalArgs_plain ?_)
 exact thn hA fun us s2 ⟨vs,H2,I2,r2,q2⟩=>hm pins s2 σ H2 x vs v us Q I2 r1 r2 q2
end
end L2
namespace L2
open PySem PySem.Spec PyProof.Rows
noncomputable def MtM (X:Cx) (id:String) (r:V→List V→Hp→VK→Prop):Prop :=
 ∀ (pins:Pnn) (s:Shared) (σ:St) (H:Hp) (x:V) (xs:List V) (v:Value) (us:List Value) (Q:VK),Inv X pins σ H s→RelV x v→Vals xs us→r x xs H Q →
  wpAny (model X.prog X.w) X.A (call (.builtin id) (v::us)) (EP X pins σ Q) X.xe s
theorem Vals.one:∀ {x:V}{us:List Value},Vals [x] us→∃ u,us=[u]∧RelV x u
 | _,_,.cons r .nil=>⟨_,rfl,r⟩
theorem Vals.dropLast {xs:List V}{us:List Value}(h:Vals xs us):Vals xs.dropLast us.dropLast:=by
 induction h with
 | nil=>exact .nil
 | cons r t ih =>
  cases t with
  | nil=>exact .nil
  | cons q t'=>exact .cons r ih
theorem Vals.rep {xs:List V}{us:List Value}(h:Vals xs us):∀ k:Nat,Vals (List.replicate k xs).flatten (List.replicate k us).flatten
 | 0=>.nil
 | k+1=>by
  rw [List.replicate_succ,List.replicate_succ,List.flatten_cons,List.flatten_cons]
  exact Vals.append h (Vals.rep h k)
theorem zhZ_ {α:Type}(l:List α):l.eraseIdx (l.length-1)=l.dropLast:=by
 induction l with
 | nil=>rfl
 | cons a r ih =>
  cases r with
  | nil=>rfl
  | cons b r =>
   have e:(a::b::r).length-1=((b::r).length-1)+1:=by
    have h1:(a::b::r).length=r.length+2:=rfl
    have h2:(b::r).length=r.length+1:=rfl
    lia
   rw [e,List.eraseIdx_cons_succ,ih]
   all_goals rfl
theorem zdh_ (its:List Value):∀ (k:Nat) (acc:List Value),
  List.foldl (fun x1 x2=>x1++x2) acc.toArray (List.replicate k its.toArray)=(acc++(List.replicate k its).flatten).toArray
 | 0,acc=>by simp
 | k+1,acc=>by
  have e:acc.toArray++its.toArray=(acc++its).toArray:=by simp
  have e2:(acc++its)++(List.replicate k its).flatten=acc++(List.replicate (k+1) its).flatten:=by
   rw [List.replicate_succ,List.flatten_cons,List.append_assoc]
  rw [← e2,← zdh_ its k (acc++its),← e,List.replicate_succ,List.foldl_cons]
section
variable {X:Cx}{pins:Pnn}{σ:St}{H:Hp}{s:Shared}{l b:Addr}{xs ys zs:List V}
theorem Inv.lset {its its':List Value}{n:Nat}{f:Array Value→Array Value}{t':Nat}(I:Inv X pins σ H s) (hH:H l=some (.lst xs))
  (e:s.heap.get? l=some { cls:=.type "list",data:=.seq its.toArray n }) (hf:f its.toArray=its'.toArray) (hv:Vals ys its') (hz:ys.length≤sizeLine) :
  Inv X pins σ (upd H l (.lst ys)) { s with heap:=s.heap.update l (Obj.mapSeq f),toks:=t' }:=by
 have q:=PySem.IsL.update e f
 rw [hf] at q
 refine I.write (x:=l) (e:=l) (by rw [hH]; exact trivial) (.inl rfl) (fun b' u hb hu=>(Heap.get?_update_other s.heap (Obj.mapSeq f) (Ne.symm hb)).trans hu) ⟨_,q⟩ ?_
 exact ⟨hz,its',_,hv,q⟩
theorem Inv.lnew {its:List Value}{t':Nat}(I:Inv X pins σ H s) (hv:Vals ys its) (hz:ys.length≤sizeLine) :
  Inv X pins σ (upd H s.heap.objs.size (.lst ys)) { s with heap:=s.heap.push { cls:=.type "list",data:=.seq its.toArray },toks:=t' } :=
 I.laid (fun _ _ q=>Heap.get?_push_of_some _ q) (Nat.le_refl _) ⟨hz,its,0,hv,Heap.get?_push_size _ rfl⟩
theorem Inv.fresh (I:Inv X pins σ H s):H s.heap.objs.size=none:=I.hok.fresh (Nat.le_refl _)
theorem Inv.lstM (I:Inv X pins σ H s) (hH:H l=some (.lst xs)):xs.length≤sizeLine∧∃ (its:List Value) (n:Nat),Vals xs its∧xs.length=its.length∧s.heap.get? l=some { cls:=.type "list",data:=.seq its.toArray n }:=by
 obtain ⟨z,its,n,r,e⟩:=I.hok l _ hH
 exact ⟨z,its,n,r,r.length,e⟩
theorem notLongL {n:Nat}(h:n≤sizeLine):Builtin.List.listTooLong n=false:=by
 unfold Builtin.List.listTooLong
 exact decide_eq_false (by lia)
end
section
variable {X:Cx}
noncomputable def rAppend:V→List V→Hp→VK→Prop:=fun x vs H Q=>∃ l xs y,x=.ref l∧vs=[y]∧H l=some (.lst xs)∧xs.length<sizeLine∧Q .non (upd H l (.lst (xs++[y])))
theorem zbd_:MtM X "list.append" rAppend:=by
 intro pins s σ H x vs v us Q I rx rv h
 obtain ⟨l,xs,y,rfl,rfl,hH,hz,q⟩:=h
 cases rx
 obtain ⟨u,rfl,ru⟩:=rv.one
 obtain ⟨z,its,n,r,hl,e⟩:=I.lstM hH
 refine call_meets F.slot_list_append ⟨_,e,rfl⟩ F.entry_list_append (F.args_list_append_2 _ _) (PySem.list_append l its.toArray n u (by rw [List.size_toArray]; lia)) ⟨e,?_⟩
 refine ⟨.non,_,I.lset (its':=its++[u]) hH e (by simp) (r.append (.cons ru .nil)) ?_,rfl,q⟩
 rw [List.length_append,List.length_singleton]
 lia
noncomputable def rExtend:V→List V→Hp→VK→Prop:=fun x vs H Q=>∃ l b xs zs,x=.ref l∧vs=[.ref b]∧H l=some (.lst xs)∧H b=some (.lst zs)∧xs.length+zs.length≤sizeLine∧Q .non (upd H l (.lst (xs++zs)))
theorem zin_:MtM X "list.extend" rExtend:=by
 intro pins s σ H x vs v us Q I rx rv h
 obtain ⟨l,b,xs,zs,rfl,rfl,hH,hB,hz,q⟩:=h
 cases rx
 obtain ⟨u,rfl,ru⟩:=rv.one
 cases ru
 obtain ⟨z,its,n,r,hl,e⟩:=I.lstM hH
 obtain ⟨z2,its2,n2,r2,hl2,e2⟩:=I.lstM hB
 have hsz:its.toArray.size+its2.toArray.size≤sizeLine:=by rw [List.size_toArray,List.size_toArray]; lia
 have hlong:¬ (!its.toArray.isEmpty && Builtin.List.listTooLong (its.toArray.size+its2.toArray.size))=true:=by
  rw [notLongL hsz,Bool.and_false]
  exact Bool.false_ne_true
 refine call_meets F.slot_list_extend ⟨_,e,rfl⟩ F.entry_list_extend (F.args_list_extend_2 _ _)
  (AutoSeq1.list_extend_list_list_0 l its.toArray n b its2.toArray n2 hlong (by rw [List.size_toArray]; lia) (by lia)) ⟨e,e2,?_⟩
 refine ⟨.non,_,I.lset (its':=its++its2) hH e (by simp) (r.append r2) ?_,rfl,q⟩
 rw [List.length_append]
 lia
noncomputable def rCat:R2:=fun x y H Q=>∃ l b xs zs,x=.ref l∧y=.ref b∧H l=some (.lst xs)∧H b=some (.lst zs)∧xs.length+zs.length≤sizeLine∧∀ p,H p=none→Q (.ref p) (upd H p (.lst (xs++zs)))
theorem ziU_:OpR X (binaryOp .Add) rCat:=by
 intro pins s σ H x y v u Q I rx ry h
 obtain ⟨l,b,xs,zs,rfl,rfl,hH,hB,hz,q⟩:=h
 cases rx
 cases ry
 obtain ⟨z,its,n,r,hl,e⟩:=I.lstM hH
 obtain ⟨z2,its2,n2,r2,hl2,e2⟩:=I.lstM hB
 refine PySem.P.add_list e e2 ?_ (by rw [List.size_toArray,List.size_toArray]; lia)
 have ea:its.toArray++its2.toArray=(its++its2).toArray:=by simp
 rw [ea]
 exact ⟨.ref _,_,I.lnew (t':=s.toks) (r.append r2) (by rw [List.length_append]; lia),rfl,q _ I.fresh⟩
noncomputable def rRep:R2:=fun x y H Q=>∃ l k xs,x=.ref l∧y=.int k∧H l=some (.lst xs) ∧ -(2 ^ 63)≤k∧k<2 ^ 63∧xs.length*k.toNat≤sizeLine ∧
 ∀ p,H p=none→Q (.ref p) (upd H p (.lst (List.replicate k.toNat xs).flatten))
theorem zff_ {α:Type}(xs:List α) (k:Nat):(List.replicate k xs).flatten.length=k*xs.length:=by
 induction k with
 | zero=>simp
 | succ k ih=>rw [List.replicate_succ,List.flatten_cons,List.length_append,ih,Nat.succ_mul,Nat.add_comm]
theorem zjn_:OpR X (binaryOp .Mult) rRep:=by
 intro pins s σ H x y v u Q I rx ry h
 obtain ⟨l,k,xs,rfl,rfl,hH,h1,h2,hz,q⟩:=h
 cases rx
 obtain ⟨t,rfl⟩:=ry
 obtain ⟨z,its,n,r,hl,e⟩:=I.lstM hH
 have hlen:its.toArray.size*k.toNat≤sizeLine:=by rw [List.size_toArray,← hl]; exact hz
 have hcap:¬ its.toArray.size*k.toNat > (2 ^ 63-1) / 8:=by
  have:(sizeLine:Nat)≤(2 ^ 63-1) / 8:=by decide
  lia
 have hfit:¬ (!Builtin.List.listFitsIndex k)=true:=by
  rw [fitsIndex_both h1 h2]
  exact Bool.false_ne_true
 have hlong:¬ Builtin.List.listTooLong (its.toArray.size*k.toNat)=true:=by
  rw [notLongL hlen]
  exact Bool.false_ne_true
 have hnew:List.foldl (fun x1 x2=>x1++x2) #[] (List.replicate (if its.toArray.isEmpty=true then 0 else k.toNat) its.toArray)=(List.replicate k.toNat its).flatten.toArray:=by
  have f0:∀ m:Nat,List.foldl (fun x1 x2=>x1++x2) #[] (List.replicate m its.toArray)=(List.replicate m its).flatten.toArray:=fun m=>by
   have:=zdh_ its m []
   rw [List.nil_append] at this
   exact this
  rw [f0]
  cases its with
  | nil=>simp
  | cons a r'=>rw [if_neg (by simp)]
 refine wpAny_binaryOp_repeat_ref (T := "list") (U := "int") (by decide) ⟨_,e,rfl⟩ (fun s'=>typeIs_int s' k t) noFill_list_mul F.fills_int_mul F.slot_int_rmul repeat_list F.slot_int_index.lookup
  (call_meets F.slot_int_rmul (typeIs_int s k t) F.entry_int_rmul (F.args_int_rmul_2 _ _) (int___rmul___int_list k t l its.toArray n)
   ⟨e,rfl,⟨_,e,rfl⟩,call_meets F.slot_list_mul ⟨_,e,rfl⟩ F.entry_list_mul (F.args_list_mul_2 _ _) (AutoListH.list___mul___list_int_3 l its.toArray n k t hfit hcap hlong) ⟨e,?_⟩⟩)
 rw [hnew]
 exact ⟨.ref _,_,I.lnew (t':=s.toks) (r.rep k.toNat) (by rw [zff_,Nat.mul_comm]; exact hz),rfl,q _ I.fresh⟩
end
section
variable {prog:Program}{w:World}{A:Around}{E:Value→Shared→Prop}{s:Shared}
end
section
variable {X:Cx}
end
end L2
namespace Att
open PySem PySem.W PySem.Calls PyProof.Rows
theorem zbF_ {P:Params}{h:Heap}:∀ (ns:List Int) (vs:List Value),WellAll P h vs (ns.map WData.int)→IntsAre vs ns:=by
 intro ns
 induction ns with
 | nil =>
  intro vs w
  rw [List.map_nil] at w
  cases w
  exact .nil
 | cons n ns ih =>
  intro vs w
  rw [List.map_cons] at w
  cases w with
  | cons a b =>
   cases a
   exact .cons _ _ (ih _ b)
theorem zeZ_ {l:OpenLaw}{n:Nat}(hn:l.most=some n) {P:Params}{h:Heap}{args:List WData}{vals:List Value}
  (hpre:l.row.toRowW.claim.pre args=true) (hwl:WellAll P h vals args) :
  ∃ a vs ns,vals=[Value.ref a]∧args=[WData.list (ns.map WData.int)]∧h.get? a=some { cls:=.type "list",data:=.seq vs.toArray }∧IntsAre vs ns∧ns.length≤n:=by
 have hsh:WShape.hasAll [] args [.list .int]=true:=(pre_splitW hpre).1
 have hc:l.pre.holds [] { args:=args }=true:=(pre_splitW hpre).2
 obtain ⟨d,r,rfl,h1,h2⟩:=hasAllW_cons hsh
 obtain rfl:=hasAllW_nil h2
 obtain ⟨xs,rfl,h3⟩:=hasW_list h1
 obtain ⟨ns,rfl⟩:=items_int h3
 have hlen:ns.length≤n:=by
  unfold OpenLaw.pre at hc
  have h4:(WTm.not (.lt (.lit (.int (n:Int))) (.len (.arg 0)))).holds [] { args:=[.list (ns.map .int)] }=true:=by
   have h4:=(holds_andW hc).1
   rw [hn] at h4
   exact h4
  have h5:=condW_of h4 (w_not (w_lt w_lit (w_len_list (w_arg rfl))))
  rw [List.length_map] at h5
  refine Nat.le_of_not_lt fun q=>?_
  have q':(n:Int)<((ns.length:Nat):Int):=by lia
  first
   | (rw [decide_eq_true q'] at h5; exact absurd h5 (by decide))
   | (simp at h5; lia)
 cases hwl with
 | cons w1 w2 =>
  cases w2
  cases w1 with
  | list ho hall=>exact ⟨_,_,ns,rfl,rfl,ho,zbF_ ns _ hall,hlen⟩
theorem zfc_ (l:OpenLaw) (args:List WData):l.row.toRowW.claim.post args (.bool true) args=true :=
 postW_of (r:=l.row.toRowW) (X:=(true == true))
  (show WShape.has [] (.bool true) .bool=true by first | rfl | decide | simp [WShape.has,WShape.arms,WShape.armsAll])
  (show (WTm.eq .res (.lit (.bool true))).value [] { args:=args,res:=some (.bool true),after:=args }=some (.bool (true == true)) from w_eq_bool (w_res rfl) w_lit) rfl
section
variable {prog:Program}{w:World}{A:Around}{E:Value→Shared→Prop}{s:Shared}{K:Frag}
end
end Att
namespace L2
open PySem PySem.Spec PyProof.Rows
theorem zdc_:∀ {vs:List Value}{ns:List Int},IntsAre vs ns→Vals (ns.map V.int) vs
 | _,_,.nil=>.nil
 | _,_,.cons n t h=>.cons ⟨t,rfl⟩ (zdc_ h)
noncomputable def Only (H:Hp):Prop:=∀ b,H b=none∨∃ o xs,H b=some (.frz o (.lst xs))
theorem zf3_ {P:Program}{w:World}{K:Fgg}{mg mb:Str→Option Value}{CX:CXT}{k:Nat}{fa a:Addr}{fd:FuncData}{x:Str}{sp:Sp}{s₁:Shared}{vs:List Value}{ns:List Int}
  (KX:K.In s₁.heap) (hns:s₁.heap.Ns mainGlobals mg) (hb:s₁.heap.Ns builtinsNs mb) (hbb:∀ x:Str,x ≠ "__name__" → mb x=bootBuiltins x) (hlim:s₁.heap.NoLimit) (hg:s₁.gens=#[])
  (ha:s₁.heap.get? a=some { cls:=.type "list",data:=.seq vs.toArray }) (hi:IntsAre vs ns) (hl:ns.length≤sizeLine) (hr:Room k callerA)
  (F:∀ base:Heap,K.In base→base.Ns mainGlobals mg→FnOk P w K mg base CX k fa fd [x] sp) (hbind:∀ (s:Shared) (u:Value),BindsTo s fd ⟨[u],[]⟩ [(x,u)])
  (hsp:∀ H:Hp,Only H→SqL K H a (ns.map V.int)→sp [.ref a] H (fun v _=>v=.bl true) fun _ _ _=>False)
  (hCX:∀ H e s',CX [] H s₁ (fun _ _ _=>False) e s'→False) :
  codeAny (model P w) callerA (.call (.ref fa) ⟨[.ref a],[]⟩) (fun r s'=>r=.ok (.ret (.bool true))∧OldK s₁.heap s'.heap∧s'.os=s₁.os∧AllBare s'.gens) s₁:=by
 have rv:=zdc_ hi
 have lenV:=hi.length
 have core:∀ H:Hp,Only H→SqL K H a (ns.map V.int)→HOk P w H s₁.heap→(∀ b,H b≠none→b=a)→(H a≠none→K.lookup a=none) →
   codeAny (model P w) callerA (.call (.ref fa) ⟨[.ref a],[]⟩) (fun r s'=>r=.ok (.ret (.bool true))∧OldK s₁.heap s'.heap∧s'.os=s₁.os∧AllBare s'.gens) s₁:=by
  intro H hO hS hok hA hK
  have base_of:∀ {b:Addr}{o:Obj},s₁.heap.get? b=some o→H b=none→(hidT s₁.heap H).get? b=some o:=fun e n=>zgf_ e n
  have noA:∀ {b:Addr}{o:Obj}{es:Array DictEntry}{ep:Nat},s₁.heap.get? b=some o→o.data=.dict es ep→H b=none:=fun {b o es ep} e d=>by
   cases q:H b with
   | none=>rfl
   | some u =>
    have e':b=a:=hA b (by rw [q]; simp)
    subst e'
    rw [ha] at e; cases e
    have d':Data.seq vs.toArray _=Data.dict es ep:=d
    cases d'
  have nsK:∀ {b:Addr}{m:Str→Option Value},s₁.heap.Ns b m→(hidT s₁.heap H).Ns b m:=fun {b m} ⟨o,es,ep,e,d,r⟩=>⟨o,es,ep,base_of e (noA e d),d,r⟩
  have hKb:K.In (hidT s₁.heap H):=fun b o e=>base_of (KX b o e) (by
   cases q:H b with
   | none=>rfl
   | some u =>
    have e':b=a:=hA b (by rw [q]; simp)
    subst e'
    rw [hK (by rw [q]; simp)] at e; cases e)
  have hM:Mod K mg (hidT s₁.heap H):=⟨hKb,nsK hns,⟨mb,nsK hb,hbb⟩,let ⟨mc,h1,h2⟩:=hlim; ⟨mc,nsK h1,h2⟩⟩
  have e0:Env0 P w K mg (hidT s₁.heap H) callerA [] s₁ H:=⟨rfl,hM,fun b o e=>zg6_ e,Nat.le_of_eq (ze4_ _ _),trivial,fun b hb=>absurd (show b∈([]:List Addr) from hb) (by simp),hok,.of_eq hg⟩
  refine codeAny_mono ((F _ hKb (nsK hns)).run callerA [] s₁ H ⟨[.ref a],[]⟩ [.ref a] [.ref a] _ _ hr e0 (hbind s₁ (.ref a)) (.cons rfl .nil) (hsp H hO hS)) fun r s' h=>?_
  cases r with
  | error e=>exact (hCX H e s' h).elim
  | ok fl =>
   cases fl with
   | next=>exact False.elim h
   | brk=>exact False.elim h
   | cont=>exact False.elim h
   | ret u =>
    obtain ⟨v,H',os,bare,un,hok',r',q⟩:=h
    have q':v=.bl true:=q
    subst q'
    obtain rfl:u=Value.bool true:=r'
    refine ⟨rfl,OldK.of_keep fun b o e=>?_,os,bare⟩
    cases q:H b with
    | none=>exact un.keep b o e q (by intro z; exact absurd (show b∈([]:List Addr) from z) (by simp)) (by simp)
    | some u =>
     rcases hO b with z | ⟨ob,xs,z⟩
     ·rw [q] at z; cases z
     ·have z2:=un.frzs b ob _ z
      obtain ⟨e1,_⟩:=hok b _ z
      obtain ⟨e2,_⟩:=hok' b _ z2
      rw [e] at e1; cases e1
      exact e2
 cases hk:K.lookup a with
 | some o =>
  have e:=KX a o hk
  rw [ha] at e
  cases e
  refine core (fun _=>none) (fun _=>.inl rfl) (.inr ⟨_,vs.toArray,_,hk,rfl,rfl,rfl,by rw [List.size_toArray,lenV]; exact hl,by simpa using rv⟩) (fun b u z=>by have z':(none:Option HO)=some u:=z; cases z') (fun b z=>absurd rfl z) fun z=>absurd rfl z
 | none =>
  refine core (fun b=>if b=a then some (.frz { cls:=.type "list",data:=.seq vs.toArray } (.lst (ns.map V.int))) else none) (fun b=>?_) (.inl (.inr ⟨{ cls:=.type "list",data:=.seq vs.toArray },if_pos rfl⟩)) (fun b u z=>?_) (fun b z=>?_) fun _=>hk
  ·by_cases hb:b=a
   ·exact .inr ⟨_,_,if_pos hb⟩
   ·exact .inl (if_neg hb)
  ·by_cases hb:b=a
   ·have z':=(if_pos hb).symm.trans z
    cases z'
    subst hb
    exact ⟨ha,by rw [List.length_map]; exact hl,vs,_,rv,ha⟩
   ·have z':=(if_neg hb).symm.trans z
    cases z'
  ·by_cases hb:b=a
   ·exact hb
   ·exact absurd (if_neg hb) z
end L2
namespace L2
open PySem PySem.Spec PyProof.Rows
end L2
namespace L2
open PySem PySem.Spec PyProof.Rows
noncomputable def defArgs (s:Stmt):Arguments:=match s with
 | .FunctionDef _ a _ _ _ _ _ _ _ _=>a
 | _=>{ posonlyargs:=[],args:=[],vararg:=none,kwonlyargs:=[],kw_defaults:=[],kwarg:=none,defaults:=[] }
noncomputable def defBody (s:Stmt):List Stmt:=match s with
 | .FunctionDef _ _ b _ _ _ _ _ _ _=>b
 | _=>[]
noncomputable def defScope (s:Stmt):Scope:=match s with
 | .FunctionDef _ _ _ _ _ _ sc _ _ _=>sc
 | _=>{ kind:=.function,names:=[],isGenerator:=false,isCoroutine:=false }
noncomputable abbrev CX0:CXT:=fun _ _ _ _ _ _=>False
noncomputable abbrev E0:XK:=fun _ _ _=>False
theorem pass0 {X:Cx}:Passes CX0 X E0:=fun _ _ _ _ _ _ _ h=>h.elim
structure Fun (K:Fgg) (x qual:Str) (st:Stmt) (f:Addr) (fd:FuncData):Prop where
 ex:∃ (oc:Value) (od:Option Addr) (kV doc pm:Value) (an:Option Addr) (cdv ct:Value) (osl:Array (Option Value)),
  fd=PySem.W.fnOf x qual (defArgs st) (defBody st) (defScope st) .none kV doc pm an cdv ct∧K.lookup f=some ⟨oc,od,.func fd,osl⟩∧PySem.W.codeIn K cdv qual=true
 kp:PySem.W.keepIn K (.ref f)=true
section
variable {P:Program}{w:World}{K:Fgg}{mg:Str→Option Value}{base:Heap}
theorem Fun.ok {x qual:Str}{st:Stmt}{f:Addr}{fd:FuncData}{N ps:List Str}{k:Nat}{sp:Sp}(F:Fun K x qual st f fd) (S:FnScope N ps (defScope st)) (len:∀ vs H Q E,sp vs H Q E→vs.length=ps.length)
  (hbody:∀ (cdv:Value) (A:Around) (outer:List Env) (s:Shared) (H:Hp) (vs:List V) (Q:VK) (E:XK),Room k (A.deeper (envOfC qual (defScope st) s.heap.objs.size f cdv))→sp vs H Q E →
   ∃ t,PSs (cxOf CX0 P w K mg base N qual (defScope st) f cdv A outer s H E).nox (defBody st) t∧t { nx:=fun _ H'=>Q .non H',rt:=Q } (start N vs) H):FnOk P w K mg base CX0 (k+1) f fd ps sp:=by
 obtain ⟨oc,od,kV,doc,pm,an,cdv,ct,osl,rfl,lk,hcd⟩:=F.ex
 refine fn_of lk hcd S len fun A outer s H vs Q E hr hsp=>?_
 obtain ⟨t,h,q⟩:=hbody cdv A outer s H vs Q E hr hsp
 exact ⟨t,h.nox,q⟩
theorem Fun.binds {x qual:Str}{st:Stmt}{f:Addr}{fd:FuncData}{ps:List Str}(F:Fun K x qual st f fd)
  (h:∀ (kV doc pm:Value) (an:Option Addr) (cdv ct:Value) (us:List Value),us.length=ps.length→bindArgs (PySem.W.fnOf x qual (defArgs st) (defBody st) (defScope st) .none kV doc pm an cdv ct) ⟨us,[]⟩=pure (ps.zip us)):Binds K fd ps []:=by
 obtain ⟨oc,od,kV,doc,pm,an,cdv,ct,osl,rfl,lk,hcd⟩:=F.ex
 exact .all (h kV doc pm an cdv ct)
theorem zbp_ {x qual:Str}{st:Stmt}{f:Addr}{oc:Value}{od an:Option Addr}{osl:Array (Option Value)}{kV doc pm cdv ct:Value}(l:K.lookup f=some ⟨oc,od,.func (PySem.W.fnOf x qual (defArgs st) (defBody st) (defScope st) .none kV doc pm an cdv ct),osl⟩)
  (c:PySem.W.codeIn K cdv qual=true) (k:PySem.W.keepIn K (.ref f)=true):Fun K x qual st f (PySem.W.fnOf x qual (defArgs st) (defBody st) (defScope st) .none kV doc pm an cdv ct):=⟨⟨oc,od,kV,doc,pm,an,cdv,ct,osl,rfl,l,c⟩,k⟩
end
section
variable {X:Cx}
end
noncomputable def Same (H H':Hp):Prop:=∀ b o,H b=some o→H' b=some o
theorem Same.refl (H:Hp):Same H H:=fun _ _ h=>h
theorem Same.trans {H H1 H2:Hp}(a:Same H H1) (b:Same H1 H2):Same H H2:=fun c o h=>b c o (a c o h)
theorem Same.free {H H':Hp}(e:Same H H') {l:Addr}(h:H' l=Option.none):H l=Option.none:=by
 cases q:H l with
 | none=>rfl
 | some o =>
  rw [e l o q] at h
  cases h
theorem Same.seq {K:Fgg}{H H':Hp}{a:Addr}{xs:List V}(e:Same H H') (h:SqL K H a xs):SqL K H' a xs:=by
 rcases h with (h | ⟨o,h⟩) | h
 ·exact .inl (.inl (e _ _ h))
 ·exact .inl (.inr ⟨o,e _ _ h⟩)
 ·exact .inr h
end L2
namespace L2
open PySem PySem.Spec PyProof.Rows
noncomputable def Itp (n:Nat) (f:Nat→V):It:=⟨fun i _=>i<n,fun i H x H'=>H'=H∧x=f i,fun i _=>n≤i⟩
noncomputable def ownTups:List String:=["enumerate", "zip", "dict_itemiterator", "dict_reverseitemiterator", "odict_iterator", "itertools.zip_longest", "itertools.pairwise"]
theorem zeN_ {P:Program}{w:World}{K:Fgg}{tg:Expr}{it:Addr}{n:Nat}{f:Nat→V}{Pw:Nat→Value→Prop}{St:Nat→Heap→Prop}
  (W:∀ A:Around,A.handled=none→Walks P w A it [it] [it] n Pw St) (hv:∀ i v,i<n→Pw i v→RelV (f i) v)
  (ho:∀ i h,St i h→∃ o nm vs,h.get? it=some o∧o.cls=.type nm∧o.data=.fields vs∧ownTups.contains nm=false)
  (hself:∀ (A:Around) (i:Nat) (s:Shared) (Q:Value→Shared→Prop) (E:Value→Shared→Prop),St i s.heap→Q (.ref it) s→wpAny (model P w) A (pyIter (.ref it)) Q E s)
  (hkeep:∀ i h h',St i h→(∀ b∈[it],∀ o,h.get? b=some o→h'.get? b=some o)→St i h') :
  Turn P w K tg (Itp n f) [it] it (fun i h=>i≤n∧St i h) where
 mem:=by simp
 obj:=fun i h st b hb=>by
  have e:b=it:=by simpa using hb
  subst e
  obtain ⟨o,nm,vs,e,c,d,_⟩:=ho i h st.2
  exact ⟨o,e,fun v z=>by rw [d] at z; cases z⟩
 keep:=fun i h h' st k=>⟨st.1,hkeep i h h' st.2 k⟩
 item:=by
  intro X hP hw hK hc i pins s σ H E I hf st hg
  subst hP hw hK
  obtain ⟨f0,f1,f2,f3,f4,f5⟩:=hf it (by simp)
  have hi:i<n:=hg
  refine (W X.A (I.ok.hd hc)).item i s _ _ hi st.2 fun v h' tk hv' st' kk=>?_
  have I1:Inv X pins σ H { s with heap:=h',toks:=tk }:=I.turned (fun b o hb e=>kk b o (by simpa using hb) e) f0 f1 f3 f4 f5
  obtain ⟨o,nm,vs,e,c,d,hn⟩:=ho _ _ st'
  exact ⟨_,rfl,zhA_ (s:={ s with heap:=h',toks:=tk }) (n:=nm) e c d hn ⟨f i,H,I1,hv i v hi hv',⟨rfl,rfl⟩,⟨hi,st'⟩,fun b hb=>(hf b hb).1⟩⟩
 done:=by
  intro X hP hw hK hc i pins s σ H E I hf st hg
  subst hP hw hK
  obtain ⟨f0,f1,f2,f3,f4,f5⟩:=hf it (by simp)
  have hi:n≤i:=hg
  have e:i=n:=Nat.le_antisymm st.1 hi
  subst e
  exact (W X.A (I.ok.hd hc)).done s _ _ st.2 fun h' tk kk=>⟨rfl,I.turned (fun b o hb e=>kk b o (by simpa using hb) e) f0 f1 f3 f4 f5⟩
 self:=fun A i s Q E st h=>hself A i s Q E st.2 h
noncomputable def sgn (x:Str) (i:Nat):V:=.str ⟨#[x.cps.getD i 0]⟩
theorem zeF_ {P:Program}{w:World}{it:Addr}{x:Str}{t:Tok}(A:Around) (hA:A.handled=none):Walks P w A it [it] [it] x.cps.size (SignAt x) (fun i h=>h.IsStrIter it (strIterType x) x t i):=by
 cases ha:x.cps.all (·<128)
 ·have e:strIterType x = "str_iterator" := by simp [strIterType,ha]
  rw [e]; exact Walks.strWide hA it x t
 ·have e:strIterType x = "str_ascii_iterator" := by simp [strIterType,ha]
  rw [e]; exact Walks.strAscii hA it x t
theorem zdS_ {x:Str}{i:Nat}{v:Value}(h:SignAt x i v):RelV (sgn x i) v:=by
 obtain ⟨c,u,e,rfl⟩:=h
 refine ⟨u,?_⟩
 have:x.cps.getD i 0=c:=by simp [Array.getD_eq_getD_getElem?,e]
 rw [this]
theorem zbL_ (x:Str):ownTups.contains (strIterType x)=false:=by
 unfold strIterType; split<;>decide
theorem zgi_ {P:Program}{w:World}{K:Fgg}{tg:Expr}(it:Addr) (x:Str) (t:Tok):Turn P w K tg (Itp x.cps.size (sgn x)) [it] it (fun i h=>i≤x.cps.size∧h.IsStrIter it (strIterType x) x t i):=by
 refine zeN_ (Pw:=SignAt x) (fun A hA=>zeF_ A hA) (fun i v _ h=>zdS_ h) (fun i h st=>?_) (fun A i s Q E st h=>?_) (fun i h h' st k=>?_)
 ·obtain ⟨o,e,c,d⟩:=st
  exact ⟨o,_,_,e,c,d,zbL_ x⟩
 ·cases ha:x.cps.all (·<128)
  ·have e:strIterType x = "str_iterator" := by simp [strIterType,ha]
   rw [e] at st; exact wpAny_pyIter_striter_wide st h
  ·have e:strIterType x = "str_ascii_iterator" := by simp [strIterType,ha]
   rw [e] at st; exact wpAny_pyIter_striter_ascii st h
 ·obtain ⟨o,e,r⟩:=st
  exact ⟨o,k it (by simp) o e,r⟩
section
variable {X:Cx}{tg:Expr}
end
end L2
namespace L2
open PySem PySem.Spec PyProof.Rows
theorem Inv.turnedL {X:Cx}{pins:Pnn}{σ:St}{H:Hp}{s:Shared}{h':Heap}{t':Nat}{ch:List Addr}(I:Inv X pins σ H s) (k:∀ b o,b∉ch→s.heap.get? b=some o→h'.get? b=some o)
  (hf:∀ b∈ch,FpOk X pins H b):Inv X pins σ H { s with heap:=h',toks:=t' }:=by
 have nit:∀ b u,H b=some u→b∉ch:=fun b u e z=>by rw [(hf b z).1] at e; cases e
 refine I.step (g':=s.gens) (d':=s.drawn) (ch:=ch) (fun b hb=>?_) (fun b o _ _ hc e _=>k b o hc e) (fun b o _ _ hc e _=>⟨o.slots,k b o hc e⟩) (fun _ _ _ _ n=>n)
  (fun b o hc e=>⟨o,k b o hc e⟩) (fun _ _ e=>e) (fun _ _ _ e=>e) (fun b ps e=>⟨#[],by rw [e]; simp⟩) (fun m hm=>?_) (fun b u e=>?_) I.bare
 ·obtain ⟨f0,f1,f2,f3,f4,f5⟩:=hf b hb
  exact ⟨f3,f1,f4,f5⟩
 ·obtain ⟨o,es,ep,ho,r⟩:=hm
  exact ⟨o,es,ep,k _ o (fun z=>(hf _ z).2.1 rfl) ho,r⟩
 ·refine (I.hok b u e).stay (fun c v hc q=>k c v ?_ q) (fun _ q=>q) fun _ _ q=>q
  rcases hc with z | z
  ·rw [z]; exact nit b u e
  ·exact nit c _ z
section
variable {X:Cx}{elts:List Expr}{kk:Nat}{tpos:Pos}
end
end L2
namespace L2
open PySem PySem.Spec PyProof.Rows
section
variable {prog:Program}{w:World}{A:Around}{R:Result→Shared→Prop}{s:Shared}
end
end L2
namespace L2
open PySem PySem.Spec PyProof.Rows
section
variable {X:Cx}{scope:Scope}{cl:List (Str×Addr)}{lv:List Str}{fr:List (Str×Nat)}{elt tg iter:Expr}{ifs:List Expr}{pos:Pos}{g:TG}{tt:TT}{te:TE}
end
end L2
namespace L2
open PySem PySem.Spec PyProof.Rows
noncomputable abbrev tx (l:List Nat):V:=.str ⟨l.toArray⟩
noncomputable def br (b:Bool) (A B:Prop):Prop:=(b=true→A)∧(b=false→B)
theorem zht_ (a b:Str):a++b=⟨(a.cps.toList++b.cps.toList).toArray⟩:=by
 cases a; cases b
 show Str.mk (_++_)=_
 simp
theorem zaU_ (a:Str):a=⟨a.cps.toList.toArray⟩:=by cases a; simp
noncomputable def cutL (l:List Nat) (lo hi:Option Int):List Nat:=(l.drop (HT.sIx l.length 0 lo)).take (HT.sIx l.length l.length hi-HT.sIx l.length 0 lo)
theorem zbf_ (lo hi:Option Int) (n:Nat):Builtin.Str.strSliceIndices lo hi 1 n=sliceRange ((HT.sIx n 0 lo:Nat):Int) ((HT.sIx n n hi:Nat):Int) 1:=by
 unfold Builtin.Str.strSliceIndices
 simp only [show (1:Int) > 0 by decide,if_true]
 congr 1
 ·cases lo with
  | none=>simp [HT.sIx]
  | some i =>
   simp only [HT.sIx]
   by_cases h:i<0
   ·simp only [h,if_true]<;>lia
   ·simp only [h,if_false]<;>lia
 ·cases hi with
  | none=>simp [HT.sIx]
  | some i =>
   simp only [HT.sIx]
   by_cases h:i<0
   ·simp only [h,if_true]<;>lia
   ·simp only [h,if_false]<;>lia
theorem zd9_ (x:Str) (lo hi:Option Int):(Builtin.Str.strSliceIndices lo hi 1 x.length).filterMap (x.cps[·]?)=cutL x.cps.toList lo hi:=by
 rw [zbf_,sliceRange_one,pick_run]
 unfold cutL Str.length
 simp only [Array.length_toList]
theorem zbW_ (l:List Nat) (lo hi:Option Int):(cutL l lo hi).length≤l.length:=by
 unfold cutL
 rw [List.length_take,List.length_drop]
 lia
theorem zeL_ {l:List Nat}{lo hi:Option Int}(h:(cutL l lo hi).length=l.length):cutL l lo hi=l:=by
 unfold cutL at h ⊢
 rw [List.length_take,List.length_drop] at h
 have h1:HT.sIx l.length l.length hi≤l.length:=HT.sIx_le _ _ (Nat.le_refl _) _
 by_cases hl:l.length=0
 ·have:l=[]:=List.length_eq_zero_iff.mp hl
  subst this
  simp
 ·have h2:HT.sIx l.length 0 lo=0:=by lia
  rw [h2,List.drop_zero,List.take_of_length_le]
  lia
section
variable {X:Cx}
noncomputable def rSlS:V→Option Int→Option Int→Hp→VK→Prop:=fun x lo hi H Q=>match x with | .str z=>z.length≤sizeLine∧Q (tx (cutL z.cps.toList lo hi)) H | _=>False
theorem zbi_ {v:Value}{o:Option Int}(p:IsPart v o):∃ l:Option (Int×Tok),v=partValue l∧l.map (·.1)=o:=by
 cases p with
 | none=>exact ⟨none,rfl,rfl⟩
 | int i t=>exact ⟨some (i,t),rfl,rfl⟩
theorem zi5_:SlR X rSlS:=by
 intro pins s σ H x v vl vu lo hi sl Q I rx hs pl pu h
 cases x with
 | str z =>
  obtain ⟨hz,q⟩:=h
  obtain ⟨t,rfl⟩:=rx
  obtain ⟨l,rfl,rfl⟩:=zbi_ pl
  obtain ⟨u,rfl,rfl⟩:=zbi_ pu
  refine ⟨"str",_,F.slot_str_getitem.lookup,typeIs_str _ _ _,?_⟩
  refine wpAny_getItem_str_slice (l:=l) (u:=u) (st:=none) hs rfl ?_
  unfold sliceMade
  have e:slicePicked z l u none=Builtin.Str.strSliceIndices (l.map (·.1)) (u.map (·.1)) 1 z.length:=rfl
  rw [e]
  have hlen:(Builtin.Str.strSliceIndices (l.map (·.1)) (u.map (·.1)) 1 z.length).length=(cutL z.cps.toList (l.map (·.1)) (u.map (·.1))).length:=by
   rw [zbf_,sliceRange_one,List.length_map,List.length_range]
   unfold cutL
   rw [List.length_take,List.length_drop]
   have h1:HT.sIx z.length z.length (u.map (·.1))≤z.length:=HT.sIx_le _ _ (Nat.le_refl _) _
   have h2:z.cps.toList.length=z.length:=by simp [Str.length]
   rw [h2]
   lia
  split
  ·rename_i hc
   have hc':(cutL z.cps.toList (l.map (·.1)) (u.map (·.1))).length=z.cps.toList.length:=by
    rw [← hlen]
    simpa [Str.length] using hc
   rw [zeL_ hc'] at q
   have q':Q (.str z) H:=by rw [zaU_ z]; exact q
   exact ⟨.str z,H,I,⟨_,rfl⟩,q'⟩
  ·rw [zd9_]
   have h3:=zbW_ z.cps.toList (l.map (·.1)) (u.map (·.1))
   have h2:z.cps.toList.length=z.length:=by simp [Str.length]
   refine ⟨?_,tx (cutL z.cps.toList (l.map (·.1)) (u.map (·.1))),H,I.tok _,⟨_,rfl⟩,q⟩
   show (cutL z.cps.toList (l.map (·.1)) (u.map (·.1))).toArray.size≤sizeLine
   rw [List.size_toArray]
   exact Nat.le_trans h3 (by rw [h2]; exact hz)
 | _=>exact h.elim
end
end L2
namespace L2
open PySem PySem.Spec PyProof.Rows
noncomputable def mVar (i:Nat):TE:=fun σ H Q=>match σ[i]? with | some (some v)=>Q v H | _=>False
section
variable {X:Cx}{a b c:Expr}{ta tb tc:TE}{pos:Pos}
theorem za_ (i:Nat) {x:Str}{pos:Pos}(hN:X.N[i]?=some x:=by rfl) (hv:Vis X.env.scope x:=by first | exact Or.inl rfl | exact Or.inr (Or.inl rfl) | exact Or.inr (Or.inr rfl)) (hd:(x == ("__debug__" : Str))=false:=by decide)
  (hcd:(x == ("__classdict__" : Str))=false:=by decide):PE X (.Name x pos) (mVar i):=by
 intro pins s σ H Q I h
 unfold mVar at h
 cases e:σ[i]? with
 | none=>rw [e] at h; exact h.elim
 | some o =>
  rw [e] at h
  cases o with
  | none=>exact h.elim
  | some v=>exact zi7_ hN hv hd hcd pins s σ H Q I ⟨v,e,h⟩
theorem zaS_ {x:Str}{l:List Nat}{j pos} (h:x=⟨l.toArray⟩:=by rfl):PE X (.Constant (.str x) j pos) (tC (tx l)):=h ▸ ziv_
noncomputable def mAdd:R2:=fun x y H Q=>match x,y with
 | .int i,.int j=>Q (.int (i+j)) H
 | .str a,.str b=>a.cps.toList.length+b.cps.toList.length≤sizeLine∧Q (tx (a.cps.toList++b.cps.toList)) H
 | .ref a,.ref b=>∃ xs zs,H a=some (.lst xs)∧H b=some (.lst zs)∧xs.length+zs.length≤sizeLine∧∀ p,H p=none→Q (.ref p) (upd H p (.lst (xs++zs)))
 | _,_=>False
theorem zbe_:OpR X (binaryOp .Add) mAdd:=by
 intro pins s σ H x y v u Q I rx ry h
 cases x<;>cases y<;>first
  | exact h.elim
  | exact ziF_ pins s σ H _ _ v u Q I rx ry ⟨_,_,rfl,rfl,h⟩
  | exact zep_ pins s σ H _ _ v u Q I rx ry ⟨_,_,rfl,rfl,by simpa [Str.length] using h.1,by rw [zht_]; exact h.2⟩
  | (obtain ⟨xs,zs,h1,h2,h3,h4⟩:=h; exact ziU_ pins s σ H _ _ v u Q I rx ry ⟨_,_,xs,zs,rfl,rfl,h1,h2,h3,h4⟩)
noncomputable def mI (C:Int→Int→Prop) (g:Int→Int→V):R2:=fun x y H Q=>match x,y with | .int i,.int j=>C i j∧Q (g i j) H | _,_=>False
noncomputable def mI0 (g:Int→Int→V):R2:=fun x y H Q=>match x,y with | .int i,.int j=>Q (g i j) H | _,_=>False
theorem opM {f:Value→Value→Sem Value}{C:Int→Int→Prop}{g:Int→Int→V}(h:OpR X f (rI C g)):OpR X f (mI C g):=by
 intro pins s σ H x y v u Q I rx ry q
 cases x<;>cases y<;>first | exact q.elim | exact h pins s σ H _ _ v u Q I rx ry ⟨_,_,rfl,rfl,q.1,q.2⟩
theorem opM0 {f:Value→Value→Sem Value}{g:Int→Int→V}(h:OpR X f (rI0 g)):OpR X f (mI0 g):=by
 intro pins s σ H x y v u Q I rx ry q
 cases x<;>cases y<;>first | exact q.elim | exact h pins s σ H _ _ v u Q I rx ry ⟨_,_,rfl,rfl,q⟩
noncomputable abbrev mSub:R2:=mI0 fun i j=>.int (i-j)
noncomputable abbrev mMod:R2:=mI (fun _ j=>0<j) fun i j=>.int (i % j)
theorem zif_:OpR X (binaryOp .Sub) mSub:=opM0 zje_
theorem zav_:OpR X (binaryOp .Mod) mMod:=opM zi2_
noncomputable def mEqB (x y:V):Option Bool:=match x,y with
 | .int i,.int j=>some (decide (i=j))
 | .str a,.str b=>some (decide (a.cps.toList=b.cps.toList))
 | .bl a,.bl b=>some (decide (a=b))
 | .non,.non=>some true
 | .non,.int _=>some false | .int _,.non=>some false | .non,.bl _=>some false | .bl _,.non=>some false | .non,.str _=>some false | .str _,.non=>some false
 | .int _,.str _=>some false | .str _,.int _=>some false | .bl _,.str _=>some false | .str _,.bl _=>some false
 | _,_=>none
theorem zd8_ {x y:V}{b:Bool}(h:mEqB x y=some b):scal x y=true∧decide (x=y)=b:=by
 cases x<;>cases y<;>first
  | (simp [mEqB] at h; done)
  | (refine ⟨rfl,?_⟩; have h':=Option.some.inj h; rw [← h']; first | rfl | (simp; done))
  | (rename_i a b'
     refine ⟨rfl,?_⟩
     have h':=Option.some.inj h
     rw [← h',decide_eq_decide]
     constructor
     ·intro e; cases e; rfl
     ·intro e; rw [zaU_ a,zaU_ b',e])
noncomputable def mEq:R2:=fun x y H Q=>match mEqB x y with | some b=>Q (.bl b) H | none=>False
noncomputable def mNe:R2:=fun x y H Q=>match mEqB x y with | some b=>Q (.bl (!b)) H | none=>False
theorem zjb_:OpR X (compareOp .Eq) mEq:=by
 intro pins s σ H x y v u Q I rx ry h
 unfold mEq at h
 cases e:mEqB x y with
 | none=>rw [e] at h; exact h.elim
 | some b =>
  rw [e] at h
  obtain ⟨h1,h2⟩:=zd8_ e
  exact op_eq pins s σ H x y v u Q I rx ry ⟨h1,by rw [h2]; exact h⟩
theorem ziV_:OpR X (compareOp .NotEq) mNe:=by
 intro pins s σ H x y v u Q I rx ry h
 unfold mNe at h
 cases e:mEqB x y with
 | none=>rw [e] at h; exact h.elim
 | some b =>
  rw [e] at h
  obtain ⟨h1,h2⟩:=zd8_ e
  exact op_ne pins s σ H x y v u Q I rx ry ⟨h1,by rw [h2]; exact h⟩
noncomputable abbrev mGe:R2:=mI0 fun i j=>.bl (decide (j≤i))
theorem zhf_:OpR X (compareOp .GtE) mGe:=opM0 op_ge
noncomputable def mIsB (x y:V):Option Bool:=match y with
 | .non=>some (decide (x=.non))
 | .bl b=>(match x with | .bl a=>some (decide (a=b)) | _=>none)
 | _=>none
noncomputable def mIs:R2:=fun x y H Q=>match mIsB x y with | some b=>Q (.bl b) H | none=>False
noncomputable def mIsNot:R2:=fun x y H Q=>match mIsB x y with | some b=>Q (.bl (!b)) H | none=>False
theorem zf0_ {M:Model}{A:Around}{E:Value→Shared→Prop}{s:Shared}{a b:Bool}{Q:Value→Shared→Prop}(h:Q (.bool (decide (a=b))) s):wpAny M A (compareOp .Is (.bool a) (.bool b)) Q E s:=by
 cases a<;>cases b<;>exact wpAny_pure h
theorem zdF_ {M:Model}{A:Around}{E:Value→Shared→Prop}{s:Shared}{a b:Bool}{Q:Value→Shared→Prop}(h:Q (.bool (!decide (a=b))) s):wpAny M A (compareOp .IsNot (.bool a) (.bool b)) Q E s:=by
 cases a<;>cases b<;>exact wpAny_pure h
theorem zgx_:OpR X (compareOp .Is) mIs:=by
 intro pins s σ H x y v u Q I rx ry h
 unfold mIs mIsB at h
 cases y with
 | non=>exact zi0_ pins s σ H x _ v u Q I rx ry ⟨rfl,h⟩
 | bl b =>
  cases x with
  | bl a=>cases rx; cases ry; exact zf0_ ⟨.bl _,H,I,rfl,h⟩
  | _=>exact h.elim
 | _=>exact h.elim
theorem zeK_:OpR X (compareOp .IsNot) mIsNot:=by
 intro pins s σ H x y v u Q I rx ry h
 unfold mIsNot mIsB at h
 cases y with
 | non=>exact zhz_ pins s σ H x _ v u Q I rx ry ⟨rfl,h⟩
 | bl b =>
  cases x with
  | bl a=>cases rx; cases ry; exact zdF_ ⟨.bl _,H,I,rfl,h⟩
  | _=>exact h.elim
 | _=>exact h.elim
noncomputable def inS (l:List Nat) (t:List Nat):Bool:=match l with | [c]=>decide (c∈t) | _=>!(Builtin.Str.occurrences ⟨t.toArray⟩ ⟨l.toArray⟩ 0 t.length 1).isEmpty
theorem zii_ (a b:Str):(!(Builtin.Str.occurrences b a 0 b.length 1).isEmpty)=inS a.cps.toList b.cps.toList:=by
 have e:b.length=b.cps.toList.length:=by simp [Str.length]
 unfold inS
 split
 ·rename_i c hc
  have ea:a=⟨#[c]⟩:=by rw [zaU_ a,hc]
  rw [ea]
  exact StrLaws.found_one b c
 ·rw [← zaU_,← zaU_,e]
noncomputable def mIn (K:Fgg) (neg:Bool):R2:=fun x y H Q=>match y with
 | .str b=>(match x with | .str a=>Q (.bl (if neg then !inS a.cps.toList b.cps.toList else inS a.cps.toList b.cps.toList)) H | _=>False)
 | .ref p=>∃ xs,(SqL K H p xs∨SqT K H p xs)∧flatV x=true∧xs.all flatV=true∧Q (.bl (if neg then !inV x xs else inV x xs)) H
 | _=>False
theorem zc3_:OpR X (compareOp .NotIn) (mIn X.K true):=by
 intro pins s σ H x y v u Q I rx ry h
 unfold mIn at h
 cases y with
 | str b =>
  cases x with
  | str a=>exact zcw_ pins s σ H _ _ v u Q I rx ry ⟨_,_,rfl,rfl,by rw [zii_]; exact h⟩
  | _=>exact h.elim
 | ref p =>
  obtain ⟨xs,h1,h2,h3,h4⟩:=h
  exact zcL_ pins s σ H _ _ v u Q I rx ry ⟨_,xs,rfl,h1,h2,h3,h4⟩
 | _=>exact h.elim
noncomputable def mTest (t:TE):TT:=fun σ H Q=>t σ H fun x H'=>match x with | .bl k=>Q k H' | _=>False
noncomputable def mAndV (ta tb:TE):TE:=fun σ H Q=>ta σ H fun x H1=>match x with | .bl c=>br c (tb σ H1 Q) (Q (.bl false) H1) | _=>False
noncomputable def mNotV (ta:TE):TE:=fun σ H Q=>ta σ H fun x H1=>match x with | .bl c=>Q (.bl (!c)) H1 | _=>False
noncomputable def mAnd (t u:TT):TT:=fun σ H Q=>t σ H fun c H1=>br c (u σ H1 Q) (Q false H1)
noncomputable def mOr (t u:TT):TT:=fun σ H Q=>t σ H fun c H1=>br c (Q true H1) (u σ H1 Q)
variable {rest:List Expr}{tA tB':TT}
theorem zid_ (ha:PE X a ta) (hb:PE X (.BoolOp .And (b::rest) pos) tb):PE X (.BoolOp .And (a::b::rest) pos) (mAndV ta tb):=by
 intro pins s σ H Q I h
 refine BoolOp_and (thn (ha pins s σ H _ I h) fun v s1 ⟨x,H1,I1,r1,q1⟩=>?_)
 cases x with
 | bl c =>
  cases r1
  refine wpAny_truthy_bool ?_
  cases c with
  | true=>exact hb pins s1 σ H1 Q I1 (q1.1 rfl)
  | false=>exact ⟨.bl false,H1,I1,rfl,q1.2 rfl⟩
 | _=>exact q1.elim
theorem zhs_ (ha:PE X a ta):PE X (.UnaryOp .Not a pos) (mNotV ta):=by
 intro pins s σ H Q I h
 refine UnaryOp_ (thn (ha pins s σ H _ I h) fun v s1 ⟨x,H1,I1,r1,q1⟩=>?_)
 cases x with
 | bl c=>cases r1; exact not_of (wpAny_truthy_bool ⟨.bl (!c),H1,I1,rfl,q1⟩)
 | _=>exact q1.elim
theorem zbI_ (ha:PT X a tA) (hb:PW X (.BoolOp .And (b::rest) pos) tB'):PW X (.BoolOp .And (a::b::rest) pos) (mAnd tA tB'):=by
 intro wh pins s σ H Q I h
 refine isTrue_and (thn (ha pins s σ H _ I h) fun c s1 ⟨H1,I1,q1⟩=>?_)
 cases c with
 | true=>exact hb wh pins s1 σ H1 Q I1 (q1.1 rfl)
 | false=>exact ⟨H1,I1,q1.2 rfl⟩
theorem zcl_ (ha:PT X a tA) (hb:PW X (.BoolOp .Or (b::rest) pos) tB'):PW X (.BoolOp .Or (a::b::rest) pos) (mOr tA tB'):=by
 intro wh pins s σ H Q I h
 refine isTrue_or (thn (ha pins s σ H _ I h) fun c s1 ⟨H1,I1,q1⟩=>?_)
 cases c with
 | true=>exact ⟨H1,I1,q1.1 rfl⟩
 | false=>exact hb wh pins s1 σ H1 Q I1 (q1.2 rfl)
theorem zaT_ {e:Expr}{t:TE}(h:PE X e t) (he:∀ whole,isTrue e X.env whole=(do let v ← whole; standAt e.pos; holding [v] (truthy v)):=by intro _; rfl):PT X e (mTest t):=by
 intro pins s σ H Q I hw
 refine isTrue_plain (thn (h pins s σ H _ I hw) fun v s1 ⟨x,H1,I1,r1,q1⟩=>?_) (he _)
 cases x with
 | bl c=>cases r1; exact wpAny_truthy_bool ⟨H1,I1,q1⟩
 | _=>exact q1.elim
theorem zH_ {op:CmpOp}{r:R2}(ho:OpR X (compareOp op) r) (ha:PE X a ta) (hb:PE X b tb) (hm:behindInMarks op b=false:=by first | exact nobehind _ (by decide) (by decide) | rfl):PT X (.Compare a [op] [b] pos) (mTest (tOp r ta tb)):=by
 intro pins s σ H Q I hw
 refine wpAny_isTrue_Compare1 (binT ha hb I hw fun v u s2 x y H2 I2 rx ry q=>?_) hm
 refine thn (ho pins s2 σ H2 x y v u _ I2 rx ry q) fun c s3 ⟨z,H3,I3,r3,q3⟩=>?_
 cases z with
 | bl k=>cases r3; exact wpAny_truthy_bool ⟨H3,I3,q3⟩
 | _=>exact q3.elim
theorem zh9_ {op:CmpOp}{r:R2}(ho:OpR X (compareOp op) r) (ha:PE X a ta) (hb:PE X b tb) (hm:behindInMarks op b=false:=by first | exact nobehind _ (by decide) (by decide) | rfl):PE X (.Compare a [op] [b] pos) (tOp r ta tb):=zgE_ ho ha hb hm
noncomputable def mIfS (c:TT) (t u:TS):TS:=fun D σ H=>c σ H fun b H1=>br b (t D σ H1) (u D σ H1)
theorem zag_ {c:Expr}{a b:List Stmt}{tc:TT}{t u:TS}(hc:PT X c tc) (ha:PSs X a t) (hb:PSs X b u):PS X (.If c a b pos) (mIfS tc t u):=by
 intro pins s σ H D I h
 refine wpAny_If (thn (hc pins s σ H _ I h) fun d s1 ⟨H1,I1,q1⟩=>?_)
 cases d with
 | true=>exact ha pins s1 σ H1 D I1 (q1.1 rfl)
 | false=>exact hb pins s1 σ H1 D I1 (q1.2 rfl)
end
end L2
namespace L2
open PySem PySem.Spec PyProof.Rows
section
variable {X:Cx}{a b c e o:Expr}{es:List Expr}{ta tb tc:TE}{t:TA}{pos:Pos}
noncomputable def mIx (K:Fgg):R2:=fun x y H Q=>match y with
 | .int i=>(match x with
  | .ref p=>∃ xs,(SqL K H p xs∨SqT K H p xs)∧(match atI xs i with | some v=>Q v H | none=>False)
  | .str z=>z.cps.toList.length≤sizeLine∧(match atI z.cps.toList i with | some c=>Q (tx [c]) H | none=>False)
  | _=>False)
 | _=>False
theorem ix_M:IxR X (mIx X.K):=by
 intro value slice pins s σ H x y v u Q I rx ry h hs0
 unfold mIx at h
 cases y with
 | int i =>
  cases x with
  | ref p =>
   obtain ⟨xs,hs,h⟩:=h
   cases ev:atI xs i with
   | none=>rw [ev] at h; exact h.elim
   | some w' =>
    rw [ev] at h
    rcases hs with hs | hs
    ·exact zhH_ value slice pins s σ H _ _ v u Q I rx ry ⟨p,xs,i,w',rfl,rfl,hs,ev,h⟩ hs0
    ·exact zjj_ value slice pins s σ H _ _ v u Q I rx ry ⟨p,xs,i,w',rfl,rfl,hs,ev,h⟩ hs0
  | str z =>
   obtain ⟨hz,h⟩:=h
   cases ev:atI z.cps.toList i with
   | none=>rw [ev] at h; exact h.elim
   | some w' =>
    rw [ev] at h
    exact ziu_ value slice pins s σ H _ _ v u Q I rx ry ⟨z,i,w',rfl,rfl,by simpa [Str.length] using hz,ev,h⟩ hs0
  | _=>exact h.elim
 | _=>exact h.elim
noncomputable def mSl (K:Fgg):V→Option Int→Option Int→Hp→VK→Prop:=fun x lo hi H Q=>match x with
 | .str z=>z.cps.toList.length≤sizeLine∧Q (tx (cutL z.cps.toList lo hi)) H
 | .ref a=>∃ xs,SqL K H a xs∧∀ p,H p=none→Q (.ref p) (upd H p (.lst (cutV xs lo hi)))
 | _=>False
theorem sl_M:SlR X (mSl X.K):=by
 intro pins s σ H x v vl vu lo hi sl Q I rx hs pl pu h
 unfold mSl at h
 cases x with
 | str z=>exact zi5_ pins s σ H _ v vl vu lo hi sl Q I rx hs pl pu ⟨by simpa [Str.length] using h.1,h.2⟩
 | ref p =>
  obtain ⟨xs,h1,h2⟩:=h
  exact zhn_ pins s σ H _ v vl vu lo hi sl Q I rx hs pl pu ⟨p,xs,rfl,h1,h2⟩
 | _=>exact h.elim
noncomputable def mPart (t:TE):TO:=fun σ H Q=>t σ H fun x H1=>match x with | .int i=>Q (some i) H1 | _=>False
theorem po_M (h:PE X e ta):PO X (some e) (mPart ta):=by
 intro pins s σ H Q I hw
 rw [evalPart_some]
 refine thn (h pins s σ H _ I hw) fun u s1 ⟨x,H1,I1,r1,q1⟩=>?_
 cases x with
 | int i=>obtain ⟨t,rfl⟩:=r1; exact ⟨some i,H1,I1,.int i t,q1⟩
 | _=>exact q1.elim
noncomputable def mLen (K:Fgg):List V→Hp→VK→Prop:=fun xs H Q=>match xs with
 | [.str z]=>z.cps.toList.length≤sizeLine∧Q (.int z.cps.toList.length) H
 | [.ref p]=>∃ ys,(SqL K H p ys∨SqT K H p ys)∧Q (.int ys.length) H
 | _=>False
theorem zaP_:CallR X (.builtin "len") (mLen X.K):=by
 intro pins s σ H xs us Q I r h
 unfold mLen at h
 split at h
 ·exact zcG_ pins s σ H _ us Q I r ⟨_,rfl,by simpa [Str.length] using h.1,by simpa [Str.length] using h.2⟩
 ·obtain ⟨ys,h1,h2⟩:=h
  exact zcD_ pins s σ H _ us Q I r ⟨_,ys,rfl,h1,h2⟩
 ·exact h.elim
noncomputable def tyS (K:Fgg) (H:Hp):V→String→Prop:=fun x T=>match x with
 | .non=>T = "NoneType" | .bl _=>T = "bool" | .int _=>T = "int" | .str _=>T = "str"
 | .ref p=>(T = "list" ∧ ∃ xs,H p=some (.lst xs))∨(T = "tuple" ∧ ∃ xs,H p=some (.tup xs))
 | _=>False
theorem ziT_ {K:Fgg}{H:Hp}{x:V}{T:String}(h:tyS K H x T):TyOf K H x (.type T):=by
 unfold tyS at h
 cases x with
 | non=>subst h; exact .non
 | bl b=>subst h; exact .bl b
 | int i=>subst h; exact .int i
 | str z=>subst h; exact .str z
 | ref p =>
  rcases h with ⟨rfl,xs,h⟩ | ⟨rfl,xs,h⟩
  ·exact .lst h
  ·exact .tup h
 | _=>exact h.elim
noncomputable def isaB (T c:String):Option Bool :=
 if T=c then some true else if T = "bool" ∧ c = "int" then some true
 else if (T = "bool" ∨ T = "int" ∨ T = "str" ∨ T = "list" ∨ T = "tuple" ∨ T = "NoneType")∧(c = "bool" ∨ c = "int" ∨ c = "str" ∨ c = "list" ∨ c = "tuple" ∨ c = "dict") then some false else none
theorem zhF_ {K:Fgg}{T c:String}{b:Bool}(h:isaB T c=some b):PySem.W.kitOne K (.type T) (.type c)=some b:=by
 unfold isaB at h
 split at h
 ·rename_i e; subst e; cases h
  unfold PySem.W.kitOne
  rw [if_pos (by simp)]
 ·split at h
  ·rename_i e; obtain ⟨rfl,rfl⟩:=e; cases h; rfl
  ·split at h
   ·rename_i h1 h2 e
    cases h
    obtain ⟨e1,e2⟩:=e
    rcases e1 with rfl | rfl | rfl | rfl | rfl | rfl<;>rcases e2 with rfl | rfl | rfl | rfl | rfl | rfl<;>first | rfl | exact absurd rfl h1 | exact absurd ⟨rfl,rfl⟩ h2
   ·cases h
noncomputable def mIsa (K:Fgg):List V→Hp→VK→Prop:=fun xs H Q=>match xs with
 | [.int _,.ty c]=>(match isaB "int" c with | some b=>Q (.bl b) H | none=>False)
 | [.bl _,.ty c]=>(match isaB "bool" c with | some b=>Q (.bl b) H | none=>False)
 | [.str _,.ty c]=>(match isaB "str" c with | some b=>Q (.bl b) H | none=>False)
 | [.non,.ty c]=>(match isaB "NoneType" c with | some b=>Q (.bl b) H | none=>False)
 | [.ref p,.ty c]=>∃ T,tyS K H (.ref p) T∧(match isaB T c with | some b=>Q (.bl b) H | none=>False)
 | _=>False
theorem zbw_:CallR X (.builtin "isinstance") (mIsa X.K):=by
 intro pins s σ H xs us Q I r h
 have key:∀ (x:V) (T c:String),xs=[x,.ty c]→tyS X.K H x T→(match isaB T c with | some b=>Q (.bl b) H | none=>False)→wpAny (model X.prog X.w) X.A (call (.builtin "isinstance") us) (EP X pins σ Q) X.xe s:=by
  intro x T c e ht hq
  subst e
  obtain ⟨u,w',rfl,r1,r2⟩:=vals2 r
  cases r2
  cases eb:isaB T c with
  | none=>rw [eb] at hq; exact hq.elim
  | some b =>
   rw [eb] at hq
   exact zcZ_ I r1 (ziT_ ht) (zhF_ eb) fun tk=>⟨.bl b,H,I.tok tk,rfl,hq⟩
 unfold mIsa at h
 split at h
 ·exact key _ "int" _ rfl rfl h
 ·exact key _ "bool" _ rfl rfl h
 ·exact key _ "str" _ rfl rfl h
 ·exact key _ "NoneType" _ rfl rfl h
 ·obtain ⟨T,h1,h2⟩:=h
  exact key _ T _ rfl h1 h2
 ·exact h.elim
noncomputable def findS (l:List Nat) (t:List Nat):Int:=Txt.find ⟨l.toArray⟩ ⟨t.toArray⟩
noncomputable def mFind:V→List V→Hp→VK→Prop:=fun x xs H Q=>match x,xs with | .str l,[.str t]=>Q (.int (findS l.cps.toList t.cps.toList)) H | _,_=>False
theorem zij_:MtR X "str.find" mFind:=by
 intro pins s σ H x xs v us Q I rx rv h
 unfold mFind at h
 split at h
 ·rename_i l t
  obtain ⟨k,rfl⟩:=rx
  obtain ⟨u,rfl,ru⟩:=rv.one
  obtain ⟨k',rfl⟩:=ru
  refine SC.find ?_
  have e:Txt.find l t=findS l.cps.toList t.cps.toList:=by unfold findS; rw [← zaU_,← zaU_]
  rw [e]
  exact ⟨.int _,H,I.tok _,⟨_,rfl⟩,h⟩
 ·exact h.elim
end
end L2
namespace L2
open PySem PySem.Spec PyProof.Rows
noncomputable def Gd (P:Program) (w:World) (K:Fgg) (mg:Str→Option Value) (base:Heap) (CX:CXT) (k:Nat) (x:Str) (ps:List Str) (sp:Sp):Prop :=
 ∃ f fd,FnOk P w K mg base CX k f fd ps sp∧mg x=some (.ref f)∧PySem.W.keepIn K (.ref f)=true∧Binds K fd ps []
noncomputable abbrev Gb (mg:Str→Option Value) (x:Str):Prop:=mg x=none
section
variable {X:Cx}{CX:CXT}{k:Nat}{x:Str}{ps:List Str}{sp:Sp}{p pos:Pos}{e:Expr}{es:List Expr}{t:TA}{tg:Expr}
theorem zA_ (G:Gd X.prog X.w X.K X.mg X.base CX0 k x ps sp) (hr:Room k X.A) (ha:PA X (e::es) t) (hg:Gl X x:=by rfl) (hdb:(x == ("__debug__" : Str))=false:=by decide)
  (he:starEach (e::es) X.env=(false,eval e X.env)::starEach es X.env:=by rfl) (hpl:(backTo pos (starEach es X.env)).any (·.1)=false:=by rfl) :
  PE X (.Call (.Name x p) (e::es) [] pos) (tCall sp [] E0 t):=by
 obtain ⟨f,fd,F,hm,hk,hb⟩:=G
 exact zh1_ F hr hg hm hk hb .nil pass0 ha hdb he hpl
theorem zgB_ (T:String) (hm:Gb X.mg x) (hg:Gl X x:=by rfl) (hv:bootBuiltins x=some (.type T):=by rfl) (hn:x ≠ "__name__" := by decide) (hd:(x == ("__debug__" : Str))=false:=by decide):PE X (.Name x pos) (tC (.ty T)) :=
 zgU_ hg hm hv rfl hn hd
theorem zdI_ {id:String}{r:List V→Hp→VK→Prop}(hc:CallR X (.builtin id) r) (hm:Gb X.mg x) (ha:PA X (e::es) t) (hg:Gl X x:=by rfl) (hv:bootBuiltins x=some (.builtin id):=by rfl) (hn:x ≠ "__name__" := by decide) (hdb:(x == ("__debug__" : Str))=false:=by decide)
  (hs:starEach (e::es) X.env=(false,eval e X.env)::starEach es X.env:=by rfl) (hpl:(backTo pos (starEach es X.env)).any (·.1)=false:=by rfl):PE X (.Call (.Name x p) (e::es) [] pos) (tCB r t) :=
 zfX_ hc hg hm hv ha hn hdb hs hpl
theorem pe_sm {o:Expr}{to:TE}{name:Str}{id:String}{r:V→List V→Hp→VK→Prop}{apos cpos:Pos}(slot:Slot "str" name id) (hty:typeOf (.builtin id)=pure (.type "method_descriptor")) (hm:MtR X id r) (ho:PE X o to) (ha:PA X (e::es) t)
  (h1:attributeBase o name X.env (eval o X.env)=eval o X.env:=by rfl) (h2:((((backTo cpos (starEach (e::es) X.env)).all fun x=>!x.fst) && (backToKw cpos (keywordEach [] X.env)).all fun x=>x.fst.isSome) && decide (((e::es).length+([]:List Keyword).length+if ([]:List Keyword).isEmpty=true then 0 else 1)<30))=true:=by rfl)
  (h3:(apos.endLine == cpos.line)=true:=by rfl) (h4:starEach (e::es) X.env=(false,eval e X.env)::starEach es X.env:=by rfl) (h5:((backTo cpos (starEach es X.env)).any fun x=>x.fst)=false:=by rfl) :
  PE X (.Call (.Attribute o name apos) (e::es) [] cpos) (tBM X.K "str" r to t):=zhk_ PySem.F.plainAttrs_str slot hty hm ho ha h1 h2 h3 h4 h5
noncomputable def iAny (K:Fgg) (tl:TE):TI:=fun σ H R=>tl σ H fun x H1=>match x with
 | .str z=>R (Itp z.cps.toList.length (fun i=>tx [z.cps.toList.getD i 0])) H1
 | .ref a=>((∃ xs,SqL K H1 a xs)∧R (Itl K a) H1)∨((∃ xs,SqT K H1 a xs)∧R (Itt K a) H1)
 | _=>False
theorem ziY_ (z:Str):sgn z=fun i=>tx [z.cps.toList.getD i 0]:=by
 funext i
 unfold sgn
 simp [Array.getD_eq_getD_getElem?,List.getD_eq_getElem?_getD]
theorem zdm_ {l:Expr}{tl:TE}(hl:PE X l tl):PI X tg l (iAny X.K tl):=by
 intro pins s σ H R I h
 refine thn (hl pins s σ H _ I h) fun v s1 ⟨x,H1,I1,r1,q1⟩=>?_
 have pt:∀ (v:V),PE X l (tC v)→PE X l (tC v):=fun _ h=>h
 cases x with
 | str z =>
  obtain ⟨t,rfl⟩:=r1
  refine wpAny_pyIter_strU ?_
  have q:R (Itp z.cps.size (sgn z)) H1:=by
   have e:z.cps.toList.length=z.cps.size:=by simp
   rw [ziY_,← e]
   exact q1
  refine ⟨s1.heap.objs.size,[s1.heap.objs.size],_,_,H1,rfl,I1.kept (t':=s1.toks) fun b o e=>Heap.get?_push_of_some _ e,zgi_ _ z t,⟨Nat.zero_le _,⟨_,Heap.get?_push_size _ rfl,rfl,rfl⟩⟩,fun b hb=>?_,q⟩
  have e:b=s1.heap.objs.size:=by simpa using hb
  subst e
  exact I1.fpOk (Nat.le_refl _) (I1.hok.fresh (Nat.le_refl _))
 | ref a =>
  cases r1
  rcases q1 with ⟨⟨xs,hq⟩,q⟩ | ⟨⟨xs,hq⟩,q⟩
  ·obtain ⟨its,rv,p,hz⟩:=I1.list hq
   refine wpAny_pyIter_list p.isList ?_
   refine ⟨s1.heap.objs.size,[s1.heap.objs.size],_,_,H1,rfl,I1.kept (t':=s1.toks) fun b o e=>Heap.get?_push_of_some _ e,ze9_ a _,⟨_,Heap.get?_push_size _ rfl,rfl,rfl⟩,fun b hb=>?_,q⟩
   have e:b=s1.heap.objs.size:=by simpa using hb
   subst e
   exact I1.fpOk (Nat.le_refl _) (I1.hok.fresh (Nat.le_refl _))
  ·obtain ⟨its,rv,p,hz⟩:=I1.tuple hq
   refine wpAny_pyIter_tuple (show s1.heap.IsTuple a its.toArray from p) ?_
   refine ⟨s1.heap.objs.size,[s1.heap.objs.size],_,_,H1,rfl,I1.kept (t':=s1.toks) fun b o e=>Heap.get?_push_of_some _ e,zee_ a _,⟨_,Heap.get?_push_size _ rfl,rfl,rfl⟩,fun b hb=>?_,q⟩
   have e:b=s1.heap.objs.size:=by simpa using hb
   subst e
   exact I1.fpOk (Nat.le_refl _) (I1.hok.fresh (Nat.le_refl _))
 | _=>exact q1.elim
noncomputable def mRng1 (ta:TA):TI:=fun σ H R=>ta σ H fun vs H1=>match vs with | [.int j] => -(2 ^ 62)≤j∧j<2 ^ 62∧R (Itr 0 j.toNat) H1 | _=>False
end
section
variable {X:Cx}{tg:Expr}
theorem zgu_ {a:Expr}{ta:TA}{p pos:Pos}(hm:Gb X.mg "range") (ha:PA X [a] ta) (hg:Gl X "range" := by rfl) (hs:starEach [a] X.env=[(false,eval a X.env)]:=by rfl):PI X tg (.Call (.Name "range" p) [a] [] pos) (mRng1 ta):=by
 intro pins s σ H R I h
 refine Call_ (zef_ I hg hm boot_range (PyProof.Rows.callWith_type1 (thn (ha pos pins s σ H _ I h) fun us s1 ⟨vs,H1,I1,r1,q1⟩=>?_) hs rfl))
 dsimp only at q1
 split at q1
 ·obtain ⟨q2,q3,q⟩:=q1
  cases r1 with
  | cons r rr =>
   cases rr
   obtain ⟨t,rfl⟩:=r
   exact call_range_1 (zfU_ I1 (by lia) (by lia) q2 q3 (by simpa using q))
 ·exact q1.elim
variable {elts:List Expr}{kk:Nat}{tpos:Pos}
noncomputable def gNilM:TGs:=fun vs σ H Q=>match vs with | []=>Q σ H | _=>False
noncomputable def gConsM (t:TG) (u:TGs):TGs:=fun vs σ H Q=>match vs with | v::r=>t v σ H fun σ' H'=>u r σ' H' Q | []=>False
theorem zfZ_:PGs X [] gNilM:=by
 intro pins s σ H vs us Q I r h
 cases vs with
 | nil=>exact zg0_ pins s σ H [] us Q I r ⟨rfl,h⟩
 | cons _ _=>exact h.elim
theorem zc8_ {e:Expr}{es:List Expr}{t:TG}{u:TGs}(h1:PG X e t) (h2:PGs X es u)
  (hs:(assignEach (e::es) X.env).map (·.2)=assign e X.env::(assignEach es X.env).map (·.2):=by rfl):PGs X (e::es) (gConsM t u):=by
 intro pins s σ H vs us Q I r h
 cases vs with
 | nil=>exact h.elim
 | cons v vr=>exact zgt_ h1 h2 hs pins s σ H _ us Q I r ⟨v,vr,rfl,h⟩
noncomputable def gTupM (K:Fgg) (n:Nat) (t:TGs):TG:=fun v σ H Q=>match v with | .ref a=>∃ xs,SqT K H a xs∧xs.length=n∧t xs σ H Q | _=>False
theorem zhN_ {es:List Expr}{k:Nat}{t:TGs}{n:Nat}{pos:Pos}(hc:X.calm=true) (h:PGs X es t)
  (hn:(assignEach es X.env).length=n:=by rfl) (hst:(assignEach es X.env).findIdx? (·.1)=none:=by rfl):PG X (.Tuple es k pos) (gTupM X.K n t):=by
 intro pins s σ H v u Q I r hw
 cases v with
 | ref a =>
  obtain ⟨xs,h1,h2,h3⟩:=hw
  exact zi3_ hc h hn hst pins s σ H _ u Q I r ⟨a,xs,rfl,h1,h2,h3⟩
 | _=>exact hw.elim
noncomputable def mNeg (ta:TE):TE:=fun σ H Q=>ta σ H fun x H1=>match x with | .int i=>Q (.int (-i)) H1 | _=>False
theorem ziE_ {a:Expr}{ta:TE}{pos:Pos}(ha:PE X a ta):PE X (.UnaryOp .USub a pos) (mNeg ta):=by
 intro pins s σ H Q I h
 refine UnaryOp_ (thn (ha pins s σ H _ I h) fun v s1 ⟨x,H1,I1,r1,q1⟩=>?_)
 cases x with
 | int i=>exact ziA_ pins s1 σ H1 _ v Q I1 r1 ⟨i,rfl,q1⟩
 | _=>exact q1.elim
end
theorem zb0_ {H:Hp}{p:Addr}(h:H p=none) (o:HO):Same H (upd H p o):=fun b u q=>by rw [zv_ (zam_ q h)]; exact q
end L2
namespace L2
open PySem PySem.Spec PyProof.Rows
theorem zaK_ {n:Nat}(h:n≤100000):n≤sizeLine:=by rw [sizeLine_eq]; lia
end L2
namespace L2
open PySem PySem.Spec PyProof.Rows
section
variable {X:Cx}{tg:Expr}
theorem zjp_ {n:Nat}{k:Int}(h0:0≤k) (h1:k<n):ixN n k=some k.toNat:=by unfold ixN; rw [if_pos h0,if_pos h1]
end
section
variable {X:Cx}{x:Str}{p pos:Pos}{e:Expr}{es:List Expr}{t:TA}
theorem pe_tf (T:String) {r:List V→Hp→VK→Prop}(hc:CallR X (.type T) r) (hm:Gb X.mg x) (ha:PA X (e::es) t) (hg:Gl X x:=by rfl) (hv:bootBuiltins x=some (.type T):=by rfl) (hn:x ≠ "__name__" := by decide) (hdb:(x == ("__debug__" : Str))=false:=by decide)
  (hs:starEach (e::es) X.env=(false,eval e X.env)::starEach es X.env:=by rfl) (hpl:(backTo pos (starEach es X.env)).any (·.1)=false:=by rfl):PE X (.Call (.Name x p) (e::es) [] pos) (tCB r t) :=
 zeS_ hc hg hm hv ha hn hdb hs hpl
end
end L2
namespace L2
open PySem PySem.Spec PyProof.Rows
end L2
namespace L2
open PySem PySem.Spec PyProof.Rows
end L2
namespace L2
open PySem PySem.Spec PyProof.Rows
structure FlyX (x T C:Addr) (H:Hp) (hb h:Heap):Prop where
 obj:∃ oe vs a0 oT ts,h.get? x=some oe∧(oe.cls=.ref C∧vs[0]?=some a0)∧oe.data=.fields vs∧vs[1]?=some (.ref T)∧T≠x∧h.get? T=some oT∧oT.data=.fields ts∧ts[3]?=some .none
 hx:H x=none
 hT:H T=none
 nx:hb.get? x=none
 nT:hb.get? T=none
noncomputable def CXx (P:Program) (w:World):CXT:=fun outer H s E e s'=>∃ x T C H',e=.ref x∧s'.os=s.os∧AllBare s'.gens∧Un (frs outer) [] H H' s.heap s'.heap∧HOk P w H' s'.heap ∧
 FlyX x T C H' s.heap s'.heap∧E (.ref C) none H'
section
variable {X:Cx}{pins:Pnn}{σ:St}{H:Hp}{s:Shared}
end
section
variable {P:Program}{w:World}{K:Fgg}{mg:Str→Option Value}{base:Heap}{N:List Str}{qual:Str}{scope:Scope}{f:Addr}{cd:Value}{A:Around}{outer:List Env}{s0:Shared}{H0:Hp}{E:XK}
end
end L2
namespace L2
open PySem PySem.Spec PyProof.Rows
noncomputable def gA (K:Fgg) (x:Str):Addr:=match PySem.W.nsIn K mainGlobals x with | some (some (.ref c))=>c | _=>0
section
variable {X:Cx}{E:XK}{C:Addr}{x:Str}{e:Expr}{es:List Expr}{t:TA}{np cpos pos:Pos}
end
section
variable {X:Cx}{a:Expr}{ta:TE}{pos:Pos}
end
end L2
namespace LX
open PySem PySem.W PySem.Calls PyProof.Rows Builtin Builtin.ObjectAttr Builtin.Getset_descriptor
section
variable {prog:Program}{w:World}{A:Around}{K:Frag}{x D:Addr}
end
end LX
namespace L2
open PySem PySem.Spec PyProof.Rows
end L2
namespace L2
open PySem PySem.Spec PyProof.Rows
section
variable {X:Cx}{k:Nat}{x:Str}{ps:List Str}{sp:Sp}{E:XK}{p pos:Pos}{e:Expr}{es:List Expr}{t:TA}
end
noncomputable def XP (X:Cx) (pins:Pnn) (W:St→XK) (e:Value) (s':Shared):Prop:=∃ σ' Hb sb,Inv X pins σ' Hb sb∧CXx X.prog X.w X.stack Hb sb (W σ') e s'
noncomputable abbrev TX:=Ends→(St→XK)→St→Hp→Prop
section
variable {X:Cx}{st:Stmt}{rest:List Stmt}{t u:TX}{k:Nat}{x:Str}{ps:List Str}{sp:Sp}{p pos pos':Pos}{e:Expr}{es:List Expr}{ta:TA}
end
section
variable {X:Cx}{pins:Pnn}{σ:St}{Hb H':Hp}{sb s1:Shared}{x T C:Addr}
end
end L2
namespace L2
open PySem PySem.Spec PyProof.Rows
section
variable {X:Cx}{body:List Stmt}{tb:TX}{ts:TS}{S:Addr}{sx n:Str}{i:Nat}{b₀:Stmt}{suite:List Stmt}{np hpos pos:Pos}
end
end L2
namespace L2
open PySem PySem.Spec PyProof.Rows
section
variable {P:Program}{w:World}{K:Fgg}{mg:Str→Option Value}{base:Heap}
end
section
variable {X:Cx}{k:Nat}{x:Str}{ps:List Str}{sp:Sp}{p pos:Pos}{e:Expr}{es:List Expr}{t:TA}
end
end L2
namespace L2
open PySem PySem.Spec PyProof.Rows
section
variable {X:Cx}{k:Nat}{x:Str}{ps:List Str}{sp:Sp}{p pos pos':Pos}{e:Expr}{es:List Expr}{ta:TA}{i:Nat}{y:Str}{py:Pos}
end
noncomputable def SG:List Nat:=[32,48,49,50,51,52,53,54,55,56,57,65,66,67,68,69,70,71,72,73,74,75,76,77,78,79,80,81,82,83,84,85,86,87,88,89,90]
noncomputable def rk (l:List Nat):Option Nat:=match l with | [c]=>SG.findIdx? (· == c) | _=>none
end L2
namespace L2
open PySem PySem.Spec PyProof.Rows
section
variable {X:Cx}
end
section
variable {X:Cx}
noncomputable def intsV (lo hi:Int):List V:=(List.range (hi-lo).toNat).map fun (i:Nat)=>V.int (lo+i)
noncomputable def mList (K:Fgg):List V→Hp→VK→Prop:=fun xs H Q=>match xs with
 | [.ref p]=>(∃ ys,(SqL K H p ys∨SqT K H p ys)∧∀ l,H l=none→Q (.ref l) (upd H l (.lst ys))) ∨
   (∃ lo hi,H p=some (.rng lo hi)∧(-50000≤lo∧lo≤50000 ∧ -50000≤hi∧hi≤50000)∧∀ l,H l=none→Q (.ref l) (upd H l (.lst (intsV lo hi))))
 | _=>False
theorem zfM_ {lo:Int}:∀ {n:Nat}{us:List Value},us.length=n→(∀ (j:Nat) (v:Value),us[j]?=some v→∃ t,v=Value.int (lo+j) t)→Vals ((List.range n).map fun (i:Nat)=>V.int (lo+i)) us
 | n,us,hl,h=>by
  refine paired_of (by rw [List.length_map,List.length_range,hl]) fun j x u hx hu=>?_
  rw [List.getElem?_map] at hx
  cases e:(List.range n)[j]? with
  | none=>rw [e] at hx; cases hx
  | some i =>
   rw [e] at hx; cases hx
   have:=List.getElem?_eq_some_iff.mp e
   obtain ⟨hj,ej⟩:=this
   rw [List.getElem_range] at ej
   subst ej
   exact h j u hu
 where paired_of:∀ {xs:List V}{us:List Value},xs.length=us.length→(∀ (j:Nat) x u,xs[j]?=some x→us[j]?=some u→RelV x u)→Vals xs us
 | [],[],_,_=>.nil
 | x::xs,u::us,hl,h=>.cons (h 0 x u rfl rfl) (paired_of (Nat.succ.inj hl) fun j x u a b=>h (j+1) x u a b)
theorem zco_ (hc:X.calm=true):CallR X (.type "list") (mList X.K):=by
 intro pins s σ H xs us Q I r h
 unfold mList at h
 split at h
 ·rename_i p
  rcases h with ⟨ys,hq,q⟩ | ⟨lo,hi,hp,⟨h1,h2,h3,h4⟩,q⟩
  ·exact zcE_ pins s σ H _ us Q I r ⟨p,ys,rfl,hq,q⟩
  ·obtain ⟨u,rfl,rx⟩:=vals1 r
   cases rx
   obtain ⟨t,u,v,e⟩:=I.hok p _ hp
   have hn:Builtin.Range.rangeSize lo hi 1=(((hi-lo).toNat:Nat):Int):=by rw [rangeSize_one]; split<;>lia
   refine call_list_range (I.ok.hd hc) e (small_one (by lia) (by lia) (by lia) (by lia)) hn (by lia) fun h' tk acc c' kp e' ⟨hs,hi'⟩=>?_
   refine ⟨.ref s.heap.objs.size,_,I.laid (o:=.lst (intsV lo hi)) (t':=tk) kp (Nat.le_refl _) ?_,rfl,q _ (I.hok.fresh (Nat.le_refl _))⟩
   refine ⟨?_,acc.toList,c',zfM_ (by simpa using hs) (fun j v hv=>?_),by simpa using e'⟩
   ·unfold intsV; rw [List.length_map,List.length_range]; exact zaK_ (by lia)
   ·obtain ⟨t,ht⟩:=hi' j v (by simpa using hv)
    exact ⟨t,by rw [ht]; simp⟩
 ·exact h.elim
end
inductive EqD (K:Fgg) (H:Hp):Nat→V→V→Bool→Prop
 | flat {x y:V}(hx:flatV x=true) (hy:flatV y=true):EqD K H 0 x y (eqV x y)
 | lst {n:Nat}{p q:Addr}{xs ys:List V}(e:Nat→Bool) (hp:SqL K H p xs) (hq:SqL K H q ys) (hl:xs.length=ys.length) (h:∀ (i:Nat) x y,xs[i]?=some x→ys[i]?=some y→EqD K H n x y (e i)):EqD K H (n+1) (.ref p) (.ref q) ((List.range xs.length).all e)
 | lstN {n:Nat}{p q:Addr}{xs ys:List V}(hp:SqL K H p xs) (hq:SqL K H q ys) (hl:xs.length≠ys.length):EqD K H n (.ref p) (.ref q) false
 | tup {n:Nat}{p q:Addr}{xs ys:List V}(e:Nat→Bool) (hp:SqT K H p xs) (hq:SqT K H q ys) (h:∀ (i:Nat) x y,xs[i]?=some x→ys[i]?=some y→EqD K H n x y (e i)):EqD K H (n+1) (.ref p) (.ref q) ((List.range (min xs.length ys.length)).all e && xs.length == ys.length)
 | lt {n:Nat}{p q:Addr}{xs ys:List V}(hp:SqL K H p xs) (hq:SqT K H q ys):EqD K H n (.ref p) (.ref q) false
 | tl {n:Nat}{p q:Addr}{xs ys:List V}(hp:SqT K H p xs) (hq:SqL K H q ys):EqD K H n (.ref p) (.ref q) false
 | lf {n:Nat}{p:Addr}{xs:List V}{y:V}(hp:SqL K H p xs) (hy:flatV y=true):EqD K H n (.ref p) y false
 | fl {n:Nat}{p:Addr}{xs:List V}{y:V}(hp:SqL K H p xs) (hy:flatV y=true):EqD K H n y (.ref p) false
 | tf {n:Nat}{p:Addr}{xs:List V}{y:V}(hp:SqT K H p xs) (hy:flatV y=true):EqD K H n (.ref p) y false
 | ft {n:Nat}{p:Addr}{xs:List V}{y:V}(hp:SqT K H p xs) (hy:flatV y=true):EqD K H n y (.ref p) false
 | up {n:Nat}{x y:V}{b:Bool}(h:EqD K H n x y b):EqD K H (n+1) x y b
section
variable {X:Cx}{pins:Pnn}{σ:St}{H:Hp}{s:Shared}
theorem za3_ {xs:List V}{us:List Value}(r:Vals xs us) {i:Nat}(h:i<us.toArray.size):∃ x,xs[i]?=some x∧RelV x us.toArray[i]:=by
 have hi:i<us.length:=by simpa using h
 have hl:=r.length
 obtain ⟨u,hu,ru⟩:=r.get (List.getElem?_eq_getElem (show i<xs.length by lia))
 refine ⟨_,List.getElem?_eq_getElem (by lia),?_⟩
 rw [List.getElem?_eq_getElem hi] at hu
 cases hu
 simpa using ru
theorem zdW_ (I:Inv X pins σ H s) {n:Nat}{x y:V}{b:Bool}(h:EqD X.K H n x y b):x=y→b=true:=by
 induction h with
 | flat hx hy =>
  rename_i x y
  rintro rfl
  cases x<;>first | (cases hx; done) | (simp [eqV]; done) | rfl
 | lst e hp hq hl h ih =>
  rename_i n p q xs ys
  intro e0
  cases e0
  have exy:=I.list_inj hp hq
  subst exy
  rw [List.all_eq_true]
  intro i hi
  have hi:=List.mem_range.mp hi
  exact ih i _ _ (List.getElem?_eq_getElem hi) (List.getElem?_eq_getElem hi) rfl
 | lstN hp hq hl =>
  intro e0
  cases e0
  exact absurd (by rw [I.list_inj hp hq]) hl
 | tup e hp hq h ih =>
  rename_i n p q xs ys
  intro e0
  cases e0
  have exy:=I.tuple_inj hp hq
  subst exy
  rw [Bool.and_eq_true,List.all_eq_true]
  refine ⟨?_,by simp⟩
  intro i hi
  have hi:=List.mem_range.mp hi
  have hi:i<xs.length:=by lia
  exact ih i _ _ (List.getElem?_eq_getElem hi) (List.getElem?_eq_getElem hi) rfl
 | lt hp hq =>
  intro e0
  cases e0
  obtain ⟨its,r1,p1,z1⟩:=I.list hp
  obtain ⟨its2,r2,p2,z2⟩:=I.tuple hq
  exact absurd rfl (SeqAt.ne_of_list_tuple p1.isList p2)
 | tl hp hq =>
  intro e0
  cases e0
  obtain ⟨its,r1,p1,z1⟩:=I.tuple hp
  obtain ⟨its2,r2,p2,z2⟩:=I.list hq
  exact absurd rfl (SeqAt.ne_of_list_tuple p2.isList p1)
 | lf hp hy=>rintro rfl; cases hy
 | fl hp hy=>rintro rfl; cases hy
 | tf hp hy=>rintro rfl; cases hy
 | ft hp hy=>rintro rfl; cases hy
 | up h ih=>exact ih
theorem zge_ (I:Inv X pins σ H s) {n:Nat}{x y:V}{b:Bool}(h:EqD X.K H n x y b):∀ (A:Around) (v u:Value),A.units+n<cLine→RelV x v→RelV y u →
  SeqAt.EqAt A s v u b∧(∀ p q,x=.ref p→y=.ref q→SeqAt.RcAt A s v u b):=by
 induction h with
 | flat hx hy =>
  intro A v u _ rx ry
  refine ⟨zgn_ rx ry hx hy,fun p q e _=>?_⟩
  subst e; cases hx
 | lst e hp hq hl h ih =>
  rename_i n p q xs ys
  intro A v u hu rx ry
  cases rx; cases ry
  obtain ⟨its,r1,p1,z1⟩:=I.list hp
  obtain ⟨its2,r2,p2,z2⟩:=I.list hq
  have l1:=r1.length
  have l2:=r2.length
  have rc:SeqAt.RcAt A s (.ref p) (.ref q) ((List.range xs.length).all e):=by
   have:=SeqAt.RcAt.lists (A:=A) (e:=e) p1.isList p2.isList (by simp only [List.size_toArray]; lia) (by lia) (fun j h1 h2=>by
    obtain ⟨x,ex,rx⟩:=za3_ r1 h1
    obtain ⟨y,ey,ry⟩:=za3_ r2 h2
    exact (ih j x y ex ey A.in1 _ _ (by show A.units+1+n<_; lia) rx ry).1)
   rw [List.size_toArray,← l1] at this
   exact this
  refine ⟨?_,fun _ _ _ _=>rc⟩
  by_cases hpq:p=q
  ·subst hpq
   have exy:=I.list_inj hp hq
   subst exy
   have:(List.range xs.length).all e=true:=by
    rw [List.all_eq_true]
    intro i hi
    have hi:=List.mem_range.mp hi
    exact zdW_ I (h i _ _ (List.getElem?_eq_getElem hi) (List.getElem?_eq_getElem hi)) rfl
   rw [this]
   exact SeqAt.EqAt.same _
  ·exact .of_refs hpq rc
 | lstN hp hq hl =>
  rename_i n p q xs ys
  intro A v u hu rx ry
  cases rx; cases ry
  obtain ⟨its,r1,p1,z1⟩:=I.list hp
  obtain ⟨its2,r2,p2,z2⟩:=I.list hq
  have l1:=r1.length
  have l2:=r2.length
  have rc:SeqAt.RcAt A s (.ref p) (.ref q) false:=SeqAt.RcAt.lists_lengths p1.isList p2.isList (by simp only [List.size_toArray,bne_iff_ne,ne_eq]; lia) (by lia)
  refine ⟨.of_refs (fun e=>?_) rc,fun _ _ _ _=>rc⟩
  subst e
  exact hl (by rw [I.list_inj hp hq])
 | tup e hp hq h ih =>
  rename_i n p q xs ys
  intro A v u hu rx ry
  cases rx; cases ry
  obtain ⟨its,r1,p1,z1⟩:=I.tuple hp
  obtain ⟨its2,r2,p2,z2⟩:=I.tuple hq
  have l1:=r1.length
  have l2:=r2.length
  have rc:SeqAt.RcAt A s (.ref p) (.ref q) ((List.range (min xs.length ys.length)).all e && xs.length == ys.length):=by
   have:=SeqAt.RcAt.tuples (A:=A) (e:=e) (show s.heap.IsTuple p its.toArray from p1) (show s.heap.IsTuple q its2.toArray from p2) (by lia) (fun j h1 h2=>by
    obtain ⟨x,ex,rx⟩:=za3_ r1 h1
    obtain ⟨y,ey,ry⟩:=za3_ r2 h2
    exact (ih j x y ex ey A.in1 _ _ (by show A.units+1+n<_; lia) rx ry).1)
   rw [List.size_toArray,List.size_toArray,← l1,← l2] at this
   exact this
  refine ⟨?_,fun _ _ _ _=>rc⟩
  by_cases hpq:p=q
  ·subst hpq
   have exy:=I.tuple_inj hp hq
   subst exy
   have:((List.range (min xs.length xs.length)).all e && xs.length == xs.length)=true:=by
    rw [Bool.and_eq_true,List.all_eq_true]
    refine ⟨?_,by simp⟩
    intro i hi
    have hi:=List.mem_range.mp hi
    have hi:i<xs.length:=by lia
    exact zdW_ I (h i _ _ (List.getElem?_eq_getElem hi) (List.getElem?_eq_getElem hi)) rfl
   rw [this]
   exact SeqAt.EqAt.same _
  ·exact .of_refs hpq rc
 | lt hp hq =>
  intro A v u hu rx ry
  cases rx; cases ry
  obtain ⟨its,r1,p1,z1⟩:=I.list hp
  obtain ⟨its2,r2,p2,z2⟩:=I.tuple hq
  exact ⟨.list_tuple p1.isList p2 (by lia),fun _ _ _ _=>.list_tuple p1.isList p2 (by lia)⟩
 | tl hp hq =>
  intro A v u hu rx ry
  cases rx; cases ry
  obtain ⟨its,r1,p1,z1⟩:=I.tuple hp
  obtain ⟨its2,r2,p2,z2⟩:=I.list hq
  exact ⟨.tuple_list p1 p2.isList (by lia),fun _ _ _ _=>.tuple_list p1 p2.isList (by lia)⟩
 | lf hp hy =>
  rename_i n p xs y
  intro A v u hu rx ry
  cases rx
  obtain ⟨its,r1,p1,z1⟩:=I.list hp
  refine ⟨?_,fun _ _ _ e=>by subst e; cases hy⟩
  cases y with
  | non=>cases ry; exact .list_none p1.isList (by lia)
  | bl b=>cases ry; exact .list_bool b p1.isList (by lia)
  | int b=>obtain ⟨t,rfl⟩:=ry; exact .list_int b t p1.isList (by lia)
  | str b=>obtain ⟨t,rfl⟩:=ry; exact .list_str b t p1.isList (by lia)
  | _=>cases hy
 | fl hp hy =>
  rename_i n p xs y
  intro A v u hu rx ry
  cases ry
  obtain ⟨its,r1,p1,z1⟩:=I.list hp
  refine ⟨?_,fun _ _ e _=>by subst e; cases hy⟩
  cases y with
  | non=>cases rx; exact .none_list p1.isList (by lia)
  | bl b=>cases rx; exact .bool_list b p1.isList (by lia)
  | int b=>obtain ⟨t,rfl⟩:=rx; exact .int_list b t p1.isList (by lia)
  | str b=>obtain ⟨t,rfl⟩:=rx; exact .str_list b t p1.isList (by lia)
  | _=>cases hy
 | tf hp hy =>
  rename_i n p xs y
  intro A v u hu rx ry
  cases rx
  obtain ⟨its,r1,p1,z1⟩:=I.tuple hp
  refine ⟨?_,fun _ _ _ e=>by subst e; cases hy⟩
  cases y with
  | non=>cases ry; exact .tuple_none p1 (by lia)
  | bl b=>cases ry; exact .tuple_bool b p1 (by lia)
  | int b=>obtain ⟨t,rfl⟩:=ry; exact .tuple_int b t p1 (by lia)
  | str b=>obtain ⟨t,rfl⟩:=ry; exact .tuple_str b t p1 (by lia)
  | _=>cases hy
 | ft hp hy =>
  rename_i n p xs y
  intro A v u hu rx ry
  cases ry
  obtain ⟨its,r1,p1,z1⟩:=I.tuple hp
  refine ⟨?_,fun _ _ e _=>by subst e; cases hy⟩
  cases y with
  | non=>cases rx; exact .none_tuple p1 (by lia)
  | bl b=>cases rx; exact .bool_tuple b p1 (by lia)
  | int b=>obtain ⟨t,rfl⟩:=rx; exact .int_tuple b t p1 (by lia)
  | str b=>obtain ⟨t,rfl⟩:=rx; exact .str_tuple b t p1 (by lia)
  | _=>cases hy
 | up h ih =>
  intro A v u hu rx ry
  exact ih A v u (by lia) rx ry
end
section
variable {X:Cx}
noncomputable def mEqK (K:Fgg):R2:=fun x y H Q=>match x,y with
 | .ref p,.ref q=>∃ n b,n≤50∧EqD K H n (.ref p) (.ref q) b∧Q (.bl b) H
 | _,_=>mEq x y H Q
noncomputable def mNeK (K:Fgg):R2:=fun x y H Q=>match x,y with
 | .ref p,.ref q=>∃ n b,n≤50∧EqD K H n (.ref p) (.ref q) b∧Q (.bl (!b)) H
 | _,_=>mNe x y H Q
theorem zcR_ (hu:X.A.units+60<cLine):OpR X (compareOp .Eq) (mEqK X.K):=by
 intro pins s σ H x y v u Q I rx ry h
 unfold mEqK at h
 split at h
 ·rename_i p q
  obtain ⟨n,b,hn,h,q⟩:=h
  have:=(zge_ I h X.A v u (by lia) rx ry).2 _ _ rfl rfl
  exact this X.prog X.w X.xe _ ⟨.bl b,H,I,rfl,q⟩
 ·exact zjb_ pins s σ H x y v u Q I rx ry h
end
section
variable {X:Cx}{pins:Pnn}{σ:St}{H:Hp}{s:Shared}
theorem zjm_ (I:Inv X pins σ H s) {n:Nat}{x y:V}{b:Bool}(h:EqD X.K H n x y b):∀ (A:Around) (v u:Value),A.units+n<cLine→RelV x v→RelV y u→∀ p q,x=.ref p→y=.ref q→SeqAt.RcNeAt A s v u (!b):=by
 induction h with
 | flat hx hy=>intro A v u _ rx ry p q e _; subst e; cases hx
 | lst e hp hq hl h ih =>
  rename_i n p q xs ys
  intro A v u hu rx ry _ _ _ _
  cases rx; cases ry
  obtain ⟨its,r1,p1,z1⟩:=I.list hp
  obtain ⟨its2,r2,p2,z2⟩:=I.list hq
  have l1:=r1.length
  have l2:=r2.length
  have:=SeqAt.RcNeAt.lists (A:=A) (e:=e) p1.isList p2.isList (by simp only [List.size_toArray]; lia) (by lia) (fun j h1 h2=>by
   obtain ⟨x,ex,rx⟩:=za3_ r1 h1
   obtain ⟨y,ey,ry⟩:=za3_ r2 h2
   exact (zge_ I (h j x y ex ey) A.in1 _ _ (by show A.units+1+n<_; lia) rx ry).1)
  rw [List.size_toArray,← l1] at this
  exact this
 | lstN hp hq hl =>
  intro A v u hu rx ry _ _ _ _
  cases rx; cases ry
  obtain ⟨its,r1,p1,z1⟩:=I.list hp
  obtain ⟨its2,r2,p2,z2⟩:=I.list hq
  have l1:=r1.length
  have l2:=r2.length
  exact SeqAt.RcNeAt.lists_lengths p1.isList p2.isList (by simp only [List.size_toArray,bne_iff_ne,ne_eq]; lia) (by lia)
 | tup e hp hq h ih =>
  rename_i n p q xs ys
  intro A v u hu rx ry _ _ _ _
  cases rx; cases ry
  obtain ⟨its,r1,p1,z1⟩:=I.tuple hp
  obtain ⟨its2,r2,p2,z2⟩:=I.tuple hq
  have l1:=r1.length
  have l2:=r2.length
  have:=SeqAt.RcNeAt.tuples (A:=A) (e:=e) (show s.heap.IsTuple p its.toArray from p1) (show s.heap.IsTuple q its2.toArray from p2) (by lia) (fun j h1 h2=>by
   obtain ⟨x,ex,rx⟩:=za3_ r1 h1
   obtain ⟨y,ey,ry⟩:=za3_ r2 h2
   exact (zge_ I (h j x y ex ey) A.in1 _ _ (by show A.units+1+n<_; lia) rx ry).1)
  rw [List.size_toArray,List.size_toArray,← l1,← l2] at this
  exact this
 | lt hp hq =>
  intro A v u hu rx ry _ _ _ _
  cases rx; cases ry
  obtain ⟨its,r1,p1,z1⟩:=I.list hp
  obtain ⟨its2,r2,p2,z2⟩:=I.tuple hq
  exact .list_tuple p1.isList p2 (by lia)
 | tl hp hq =>
  intro A v u hu rx ry _ _ _ _
  cases rx; cases ry
  obtain ⟨its,r1,p1,z1⟩:=I.tuple hp
  obtain ⟨its2,r2,p2,z2⟩:=I.list hq
  exact .tuple_list p1 p2.isList (by lia)
 | lf hp hy=>intro A v u hu rx ry _ _ _ e; subst e; cases hy
 | fl hp hy=>intro A v u hu rx ry _ _ e _; subst e; cases hy
 | tf hp hy=>intro A v u hu rx ry _ _ _ e; subst e; cases hy
 | ft hp hy=>intro A v u hu rx ry _ _ e _; subst e; cases hy
 | up h ih=>intro A v u hu rx ry; exact ih A v u (by lia) rx ry
theorem zeY_ (hu:X.A.units+60<cLine):OpR X (compareOp .NotEq) (mNeK X.K):=by
 intro pins s σ H x y v u Q I rx ry h
 unfold mNeK at h
 split at h
 ·rename_i p q
  obtain ⟨n,b,hn,h,q⟩:=h
  have:=zjm_ I h X.A v u (by lia) rx ry _ _ rfl rfl
  exact this X.prog X.w X.xe _ ⟨.bl (!b),H,I,rfl,q⟩
 ·exact ziV_ pins s σ H x y v u Q I rx ry h
end
theorem Room.u60 {k:Nat}{A:Around}(r:Room k A):A.units+60<cLine:=by have:=r.units; lia
end L2
namespace LX
open PySem Builtin Builtin.Str
section
variable {prog:Program}{w:World}{A:Around}{E:Value→Shared→Prop}{s:Shared}{x:Str}{t:Tok}{Q:Value→Shared→Prop}
end
end LX
namespace L2
open PySem PySem.Spec PyProof.Rows
section
variable {X:Cx}
end
section
variable {X:Cx}{a b c d:Expr}{ta tb tc td:TE}{pos:Pos}
end
end L2
namespace L2
open PySem PySem.Spec PyProof.Rows
section
variable {κ:Type} [DecidableEq κ]
noncomputable def valV (kvs:List (κ×V)) (k:κ):Option V:=(kvs.find? fun kv=>decide (kv.1=k)).map (·.2)
noncomputable def putK (kvs:List (κ×V)) (k:κ) (v:V):List (κ×V) :=
 if (kvs.any fun kv=>decide (kv.1=k))=true then kvs.map (fun kv=>if kv.1=k then (kv.1,v) else kv) else kvs++[(k,v)]
theorem zcN_ {p:κ×V}{r:List (κ×V)}{k:κ}(e:p.1=k):valV (p::r) k=some p.2:=by simp [valV,List.find?_cons,e]
theorem zcz_ {p:κ×V}{r:List (κ×V)}{k:κ}(e:¬ p.1=k):valV (p::r) k=valV r k:=by simp [valV,List.find?_cons,e]
theorem zed_ (k:κ):∀ kvs:List (κ×V),(kvs.any fun kv=>decide (kv.1=k))=(valV kvs k).isSome
 | []=>rfl
 | p::r=>by
  rw [List.any_cons]
  by_cases e:p.1=k
  ·simp only [zcN_ e,decide_eq_true e,Bool.true_or,Option.isSome_some]
  ·rw [zcz_ e,decide_eq_false e,Bool.false_or]; exact zed_ k r
theorem zaX_ (kvs:List (κ×V)) (k:κ) (v:V):(putK kvs k v).length≤kvs.length+1:=by
 unfold putK
 split
 ·rw [List.length_map]; lia
 ·rw [List.length_append,List.length_cons,List.length_nil]; lia
theorem RelO.isSome_eq {o:Option V}{u:Option Value}(r:RelO o u):o.isSome=u.isSome:=by
 cases o with
 | none=>cases u with
  | none=>rfl
  | some _=>exact (show False from r).elim
 | some _=>cases u with
  | none=>exact (show False from r).elim
  | some _=>rfl
theorem KV.val {kvs:List (κ×V)}{vs:List (κ×Value)}(r:KV kvs vs) (k:κ):RelO (valV kvs k) (valueAt vs k):=by
 unfold KV at r
 induction r with
 | nil=>exact True.intro
 | @cons p q ps qs h t ih =>
  obtain ⟨h1,h2⟩:=h
  by_cases e:p.1=k
  ·have e':q.1=k:=h1.symm.trans e
   have b:valueAt (q::qs) k=some q.2:=by simp [valueAt,List.find?_cons,e']
   rw [zcN_ e,b]; exact h2
  ·have e':¬ q.1=k:=fun z=>e (h1.trans z)
   have b:valueAt (q::qs) k=valueAt qs k:=by simp [valueAt,List.find?_cons,e']
   rw [zcz_ e,b]; exact ih
theorem KV.any {kvs:List (κ×V)}{vs:List (κ×Value)}(r:KV kvs vs) (k:κ):(kvs.any fun kv=>decide (kv.1=k))=vs.any fun kv=>decide (kv.1=k):=by
 unfold KV at r
 induction r with
 | nil=>rfl
 | cons h t ih=>rw [List.any_cons,List.any_cons,ih,h.1]
theorem KV.repl {kvs:List (κ×V)}{vs:List (κ×Value)}(r:KV kvs vs) (k:κ) {y:V}{u:Value}(ry:RelV y u) :
  KV (kvs.map fun kv=>if kv.1=k then (kv.1,y) else kv) (vs.map fun kv=>if kv.1=k then (kv.1,u) else kv):=by
 unfold KV at r ⊢
 induction r with
 | nil=>exact .nil
 | @cons p q ps qs h t ih =>
  rw [List.map_cons,List.map_cons]
  refine .cons ?_ ih
  obtain ⟨h1,h2⟩:=h
  by_cases e:p.1=k
  ·rw [if_pos e,if_pos (h1.symm.trans e)]; exact ⟨h1,ry⟩
  ·rw [if_neg e,if_neg (fun z=>e (h1.trans z))]; exact ⟨h1,h2⟩
theorem KV.put {kvs:List (κ×V)}{vs:List (κ×Value)}(r:KV kvs vs) (k:κ) {y:V}{u:Value}(ry:RelV y u):KV (putK kvs k y) (stored vs k u):=by
 unfold putK stored
 rw [r.any k]
 by_cases e:(vs.any fun kv=>decide (kv.1=k))=true
 ·rw [if_pos e,if_pos e]; exact r.repl k ry
 ·rw [if_neg e,if_neg e]; exact Paired.snoc r ⟨rfl,ry⟩
theorem KV.length {kvs:List (κ×V)}{vs:List (κ×Value)}(r:KV kvs vs):kvs.length=vs.length:=Paired.length r
end
theorem zgD_ {P:Program}{w:World}{k:Key}{u:Value}(r:RelV (kV k) u):(mixKind P w).is k u=true:=by
 cases k with
 | inl i=>obtain ⟨t,e⟩:=(show ∃ t,u=Value.int i t from r); subst e; exact zdq_ P w i t
 | inr x=>obtain ⟨t,e⟩:=(show ∃ t,u=Value.str x t from r); subst e; exact zdx_ P w x t
theorem zdb_ {P:Program}{w:World}:∀ {ks:List Key}{us:List Value},Vals (ks.map kV) us→ItemsAre (mixKind P w) ks us
 | [],_,r=>by rw [List.map_nil] at r; cases r; exact .nil
 | k::ks,_,r=>by
  rw [List.map_cons] at r
  cases r with
  | cons h t=>exact .cons (zgD_ h) (zdb_ t)
noncomputable abbrev KT (H:Hp):List (List Key×V)→List (List Key×Addr×Value)→Prop:=Paired fun p q=>p.1=q.1∧H q.2.1=some (.tup (p.1.map kV))∧RelV p.2 q.2.2
theorem KT.val {H:Hp}{kvs:List (List Key×V)}{xs:List (List Key×Addr×Value)}(r:KT H kvs xs) (k:List Key):RelO (valV kvs k) ((atKey xs k).map (·.2)):=by
 induction r with
 | nil=>exact True.intro
 | @cons p q ps qs h t ih =>
  obtain ⟨h1,_,h2⟩:=h
  by_cases e:p.1=k
  ·have e':q.1=k:=h1.symm.trans e
   have b:atKey (q::qs) k=some q.2:=by simp [atKey,List.find?_cons,e']
   rw [zcN_ e,b]; exact h2
  ·have e':¬ q.1=k:=fun z=>e (h1.trans z)
   have b:atKey (q::qs) k=atKey qs k:=by simp [atKey,List.find?_cons,e']
   rw [zcz_ e,b]; exact ih
theorem KT.repl {H:Hp}{kvs:List (List Key×V)}{xs:List (List Key×Addr×Value)}(r:KT H kvs xs) (k:List Key) {y:V}{u:Value}(ry:RelV y u) :
  KT H (kvs.map fun kv=>if kv.1=k then (kv.1,y) else kv) (xs.map (putAt k u)):=by
 induction r with
 | nil=>exact .nil
 | @cons p q ps qs h t ih =>
  rw [List.map_cons,List.map_cons]
  refine .cons ?_ ih
  obtain ⟨h1,h2,h3⟩:=h
  unfold putAt
  by_cases e:p.1=k
  ·rw [if_pos e,if_pos (h1.symm.trans e)]; exact ⟨h1,h2,ry⟩
  ·rw [if_neg e,if_neg (fun z=>e (h1.trans z))]; exact ⟨h1,h2,h3⟩
theorem KT.put {H:Hp}{kvs:List (List Key×V)}{xs:List (List Key×Addr×Value)}(r:KT H kvs xs) (k:List Key) {b:Addr}{y:V}{u:Value}(hb:H b=some (.tup (k.map kV))) (ry:RelV y u) :
  KT H (putK kvs k y) (storedH xs k b u):=by
 have e:(kvs.any fun kv=>decide (kv.1=k))=(atKey xs k).isSome:=by
  rw [zed_,(r.val k).isSome_eq,Option.isSome_map]
 unfold putK storedH
 rw [e]
 by_cases q:(atKey xs k).isSome=true
 ·rw [if_pos q,if_pos q]; exact r.repl k ry
 ·rw [if_neg q,if_neg q]; exact Paired.snoc r ⟨rfl,hb,ry⟩
theorem KT.keeps {H H':Hp}{kvs:List (List Key×V)}{xs:List (List Key×Addr×Value)}(r:KT H kvs xs) (ht:∀ b ys,H b=some (.tup ys)→H' b=some (.tup ys)):KT H' kvs xs :=
 Paired.mapP r fun _ _ z=>⟨z.1,ht _ _ z.2.1,z.2.2⟩
section
variable {P:Program}{w:World}{H:Hp}{h:Heap}{a:Addr}
theorem rd_of {u:HO}(ok:HOk P w H h) (e:Rd H a u):ObjOk P w H h a u:=e.ok ok
theorem zgC_ {kvs:List (Key×V)}(ok:HOk P w H h) (e:Rd H a (.dK kvs)):kvs.length≤sizeLine∧(a == sysModules)=false∧∃ vs,KV kvs vs∧h.DictOf (mixKind P w) a vs :=
 show ObjOk P w H h a (.dK kvs) from rd_of ok e
theorem zgO_ {kvs:List (Key×V)}(ok:HOk P w H h) (e:H a=some (.dK kvs)):kvs.length≤sizeLine∧(a == sysModules)=false∧∃ vs,KV kvs vs∧h.DictOf (mixKind P w) a vs:=zgC_ ok (.inl e)
theorem zdR_ {ks:List Key}(ok:HOk P w H h) (e:H a=some (.tup (ks.map kV))):(tupleKind (mixKind P w)).is h ks a:=by
 obtain ⟨_,its,r,o,h1,h2,n,h3⟩:=(show ObjOk P w H h a (.tup (ks.map kV)) from ok a _ e)
 exact ⟨o,its.toArray,n,h1,h2,h3,by simpa using zdb_ r⟩
theorem zgz_ {kvs:List (List Key×V)}(ok:HOk P w H h) (e:Rd H a (.dT kvs)):kvs.length≤sizeLine∧(a == sysModules)=false ∧
  ∃ xs,KT H kvs xs∧h.DictOfH (tupleKind (mixKind P w)) a xs:=by
 obtain ⟨z,y,xs,r,o,es,ep,h1,h2,h3,h4,h5⟩:=(show ObjOk P w H h a (.dT kvs) from rd_of ok e)
 refine ⟨z,y,xs,r,o,es,ep,h1,h2,h3,h4,fun x hx=>?_,h5⟩
 have all:∀ {l:List (List Key×V)}{m:List (List Key×Addr×Value)},KT H l m→∀ x∈m,(tupleKind (mixKind P w)).is h x.1 x.2.1:=by
  intro l m q
  induction q with
  | nil=>intro x hx; exact nomatch hx
  | @cons p q ps qs hq t ih =>
   intro x hx
   rcases List.mem_cons.mp hx with e | hx
   ·subst e
    exact zdR_ ok (by rw [← hq.1]; exact hq.2.1)
   ·exact ih x hx
 exact all r x hx
theorem dt_of {kvs:List (List Key×V)}(ok:HOk P w H h) (e:H a=some (.dT kvs)):kvs.length≤sizeLine∧(a == sysModules)=false ∧
  ∃ xs,KT H kvs xs∧h.DictOfH (tupleKind (mixKind P w)) a xs:=zgz_ ok (.inl e)
end
noncomputable def DGet (H:Hp) (a:Addr) (y:V) (r:Option V):Prop :=
 (∃ kvs k,Rd H a (.dK kvs)∧y=kV k∧r=valV kvs k)∨∃ kvs k b,Rd H a (.dT kvs)∧y=.ref b∧H b=some (.tup (k.map kV))∧r=valV kvs k
noncomputable def DPut (H:Hp) (a:Addr) (y v:V) (H':Hp):Prop :=
 (∃ kvs k,H a=some (.dK kvs)∧y=kV k∧kvs.length<sizeLine∧H'=upd H a (.dK (putK kvs k v))) ∨
 ∃ kvs k b,H a=some (.dT kvs)∧y=.ref b∧H b=some (.tup (k.map kV))∧kvs.length<sizeLine∧H'=upd H a (.dT (putK kvs k v))
theorem DGet.k {H:Hp}{a:Addr}{kvs:List (Key×V)}{k:Key}(e:H a=some (.dK kvs)):DGet H a (kV k) (valV kvs k):=.inl ⟨kvs,k,.inl e,rfl,rfl⟩
theorem DPut.k {H:Hp}{a:Addr}{kvs:List (Key×V)}{k:Key}{v:V}(e:H a=some (.dK kvs)) (hl:kvs.length<sizeLine):DPut H a (kV k) v (upd H a (.dK (putK kvs k v))):=.inl ⟨kvs,k,e,rfl,hl,rfl⟩
section
variable {X:Cx}{pins:Pnn}{σ:St}{H:Hp}{s:Shared}{a:Addr}{y v:V}{u r:Value}{o:Option V}{A:Around}{E:Value→Shared→Prop}
theorem Inv.big (I:Inv X pins σ H s):sysModules<s.heap.objs.size:=by
 have h:mainGlobals<s.heap.objs.size:=(I.mod.glob.keeps I.bk).lt
 exact Nat.lt_trans (by decide) h
theorem zeR_ {Q:Value→Shared→Prop}(hu:A.units+1<cLine) (I:Inv X pins σ H s) (g:DGet H a y (some v)) (ry:RelV y u) (h:∀ w' s',Inv X pins σ H s'→RelV v w'→Q w' s') :
  wpAny (model X.prog X.w) A (getItem (.ref a) u) Q E s:=by
 rcases g with ⟨kvs,k,e,ey,l⟩ | ⟨kvs,k,b,e,ey,eb,l⟩
 ·subst ey
  obtain ⟨z,hd,vs,rel,dd⟩:=zgC_ I.hok e
  obtain ⟨w',hw,rw'⟩:=RelO.some_of (v:=v) (o:=valueAt vs k) (by rw [l]; exact rel.val k)
  exact wpAny_getItem_of (zgD_ ry) dd.mapOf hw (h w' _ (I.tok _) rw')
 ·subst ey
  cases (show u=Value.ref b from ry)
  obtain ⟨z,hd,xs,rel,dd⟩:=zgz_ I.hok e
  obtain ⟨w',hw,rw'⟩:=RelO.some_of (v:=v) (o:=(atKey xs k).map (·.2)) (by rw [l]; exact rel.val k)
  obtain ⟨p,hp,hp2⟩:=Option.map_eq_some_iff.mp hw
  refine wpAny_getItem_heap (tupleKind_room_in1 hu) (zdR_ I.hok eb) dd hp ?_
  rw [hp2]
  exact h w' _ (I.tok _) rw'
theorem d_in {Q:Value→Shared→Prop}(hu:A.units+1<cLine) (I:Inv X pins σ H s) (g:DGet H a y o) (ry:RelV y u) (h:∀ s',Inv X pins σ H s'→Q (.bool o.isSome) s') :
  wpAny (model X.prog X.w) A (compareOp .In u (.ref a)) Q E s:=by
 rcases g with ⟨kvs,k,e,ey,l⟩ | ⟨kvs,k,b,e,ey,eb,l⟩
 ·subst ey
  obtain ⟨z,hd,vs,rel,dd⟩:=zgC_ I.hok e
  refine wpAny_in_of (zgD_ ry) hd dd.mapOf ?_
  rw [← (rel.val k).isSome_eq,← l]
  exact h _ (I.tok _)
 ·subst ey
  cases (show u=Value.ref b from ry)
  obtain ⟨z,hd,xs,rel,dd⟩:=zgz_ I.hok e
  refine wpAny_in_heap (tupleKind_room_in1 hu) (zdR_ I.hok eb) hd dd ?_
  have q:=(rel.val k).isSome_eq
  rw [Option.isSome_map] at q
  rw [← q,← l]
  exact h _ (I.tok _)
theorem zhI_ {Q:Value→Shared→Prop}(hu:A.units+1<cLine) (I:Inv X pins σ H s) (g:DGet H a y o) (ry:RelV y u) (h:∀ s',Inv X pins σ H s'→Q (.bool (!o.isSome)) s') :
  wpAny (model X.prog X.w) A (compareOp .NotIn u (.ref a)) Q E s:=by
 rcases g with ⟨kvs,k,e,ey,l⟩ | ⟨kvs,k,b,e,ey,eb,l⟩
 ·subst ey
  obtain ⟨z,hd,vs,rel,dd⟩:=zgC_ I.hok e
  refine wpAny_notIn_of (zgD_ ry) hd dd.mapOf ?_
  rw [← (rel.val k).isSome_eq,← l]
  exact h _ (I.tok _)
 ·subst ey
  cases (show u=Value.ref b from ry)
  obtain ⟨z,hd,xs,rel,dd⟩:=zgz_ I.hok e
  refine wpAny_notIn_heap (tupleKind_room_in1 hu) (zdR_ I.hok eb) hd dd ?_
  have q:=(rel.val k).isSome_eq
  rw [Option.isSome_map] at q
  rw [← q,← l]
  exact h _ (I.tok _)
theorem zdZ_ {h':Heap}{t':Nat}{ob:HO}(I:Inv X pins σ H s) (mu:Mut (H a)) (hs:Heap.SameBut a s.heap h') (he:∃ q,h'.get? a=some q) (new:ObjOk X.prog X.w (upd H a ob) h' a ob) :
  Inv X pins σ (upd H a ob) { s with heap:=h',toks:=t' } :=
 I.write (x:=a) (e:=a) mu (.inl rfl) (fun b q hb z=>(hs.2 b hb).trans z) he new
theorem zha_ {P:Program}{w:World}{H':Hp}{h':Heap}{kvs:List (Key×V)}{vs:List (Key×Value)}(z:kvs.length≤sizeLine) (hd:(a == sysModules)=false) (rel:KV kvs vs) (dd:h'.DictOf (mixKind P w) a vs) :
  ObjOk P w H' h' a (.dK kvs):=⟨z,hd,vs,rel,dd⟩
theorem ze6_ {H':Hp}{Q:Unit→Shared→Prop}(hu:A.units+1<cLine) (I:Inv X pins σ H s) (g:DPut H a y v H') (ry:RelV y u) (rv:RelV v r) (h:∀ s',Inv X pins σ H' s'→Q () s') :
  wpAny (model X.prog X.w) A (setItem (.ref a) u r) Q E s:=by
 rcases g with ⟨kvs,k,e,ey,l,eH⟩ | ⟨kvs,k,b,e,ey,eb,l,eH⟩
 ·subst ey eH
  obtain ⟨z,hd,vs,rel,dd⟩:=zgO_ I.hok e
  have hz:vs.length≤sizeLine:=by rw [← rel.length]; exact z
  have hl:(putK kvs k v).length≤sizeLine:=by have:=zaX_ kvs k v; lia
  refine wpAny_setItem_pairs (hsz:=hz) (zgD_ ry) dd fun h' dd' hs=>h _ ?_
  have he:∃ q,h'.get? a=some q:=let ⟨q,_,_,hq,_⟩:=dd'; ⟨q,hq⟩
  exact zdZ_ I (by rw [e]; exact True.intro) hs he (zha_ hl hd (rel.put k rv) dd')
 ·subst ey eH
  cases (show u=Value.ref b from ry)
  obtain ⟨z,hd,xs,rel,dd⟩:=dt_of I.hok e
  have hz:xs.length≤sizeLine:=by rw [← Paired.length rel]; exact z
  have hl:(putK kvs k v).length≤sizeLine:=by have:=zaX_ kvs k v; lia
  refine wpAny_setItem_heap (hsz:=hz) (tupleKind_room_in1 hu) (zdR_ I.hok eb) dd fun h' dd' hs=>h _ ?_
  obtain ⟨q,es,ep,hq,h2,h3,h4,_,h5⟩:=dd'
  refine zdZ_ I (by rw [e]; exact True.intro) hs ⟨q,hq⟩ ⟨hl,hd,_,(rel.put k eb rv).keeps fun c ys ec=>?_,q,es,ep,hq,h2,h3,h4,h5⟩
  rw [zv_ (ne_of ec e (fun z=>nomatch z))]
  exact ec
end
section
variable {X:Cx}{pins:Pnn}{σ:St}{H:Hp}{s:Shared}{a:Addr}{kvs:List (Key×V)}{k:Key}{u:Value}{A:Around}{E:Value→Shared→Prop}
end
noncomputable def NoSl (i:Expr):Prop:=∀ ov iv,subscripted i false ov iv=operate [ov,iv] (getItem ov iv)
theorem zh8_ {prog:Program}{w:World}{A:Around}{E:Value→Shared→Prop}{s:Shared}{env:Env}{value slice:Expr}{pos:Pos}{T id:String}{Q:Value→Shared→Prop}
  (hl:typeLookup (.type T) "__getitem__" = pure (some (.builtin id))) (hs:NoSl slice)
  (h:wpAny (model prog w) A (eval value env) (fun o s₁=>wpAny (model prog w) A (eval slice env) (fun i s₂=>s₂.TypeIs o T∧wpAny (model prog w) A (getItem o i) Q E s₂) E s₁) E s) :
  wpAny (model prog w) A (eval (.Subscript value slice pos) env) Q E s:=by
 refine Subscript_ (wpAny_mono h (fun o s₁ h₁=>wpAny_mono h₁ (fun i s₂ h₂=>?_) fun _ _ x=>x) fun _ _ x=>x)
 obtain ⟨hT,h₂⟩:=h₂
 unfold subscriptTail
 refine wpAny_bind ?_
 rw [getitemInPython_of_ne hT.not_modules]
 refine wpAny_bind (wpAny_specialOf hT hl ?_)
 have fin:wpAny (model prog w) A (subscripted slice false o i) (fun r s₃=>wpAny (model prog w) A (letTemporaryGo value o r>>=fun _=>pure r) Q E s₃) E s₂:=by
  rw [hs o i]
  exact wpAny_operating (wpAny_mono h₂ (fun r s₃ h₃=>wpAny_bind (wpAny_letTemporaryGo (wpAny_pure h₃))) fun _ _ x=>x)
 first
  | exact wpAny_pure (wpAny_bind fin)
  | exact wpAny_bind (wpAny_pure (wpAny_bind fin))
  | exact wpAny_bind fin
theorem zdB_ {X:Cx}{pins:Pnn}{σ:St}{H:Hp}{s:Shared}{a:Addr}{y:V}{o:Option V}(I:Inv X pins σ H s) (g:DGet H a y o):s.TypeIs (.ref a) "dict" := by
 rcases g with ⟨kvs,k,e,_,_⟩ | ⟨kvs,k,b,e,_,_,_⟩
 ·obtain ⟨_,_,vs,_,dd⟩:=zgC_ I.hok e
  exact dd.typeIs
 ·obtain ⟨_,_,xs,_,dd⟩:=zgz_ I.hok e
  exact dd.typeIs
section
variable {X:Cx}{o i e value:Expr}{pos pos' tpos:Pos}{td ty tv:TE}
end
theorem zf8_ {P:Program}{w:World}{H:Hp}(h:Heap) (hb:sysModules<h.objs.size):ObjOk P w H (h.push { cls:=.type "dict",data:=.dict #[] }) h.objs.size (.dK []) :=
 ⟨Nat.zero_le _,beq_eq_false_iff_ne.mpr (Ne.symm (Nat.ne_of_lt hb)),[],.nil,Heap.DictOf.new h⟩
noncomputable def tDNewK:TE:=fun _ H Q=>∀ p,H p=none→Q (.ref p) (upd H p (.dK []))
section
variable {X:Cx}{pos:Pos}
theorem zei_:PE X (.Dict [] [] pos) tDNewK:=fun pins s σ H Q I h =>
 wpAny_Dict_empty ⟨.ref s.heap.objs.size,_,I.laid (a:=s.heap.objs.size) (o:=.dK []) (t':=s.toks) (fun _ _ q=>Heap.get?_push_of_some _ q) (Nat.le_refl _) (zf8_ s.heap I.big),rfl,h _ (I.hok.fresh (Nat.le_refl _))⟩
end
structure M2 (X:Cx) (o:Expr) (m:Str) (apos:Pos) (e f:Expr) (cpos:Pos):Prop where
 base:attributeBase o m X.env (eval o X.env)=eval o X.env
 few:((backTo cpos (starEach [e,f] X.env)).all (fun x=>!x.1) && (backToKw cpos (keywordEach [] X.env)).all (fun x=>x.1.isSome)
  && decide (([e,f]:List Expr).length+([]:List Keyword).length+(if ([]:List Keyword).isEmpty then 0 else 1)<30))=true
 line:(apos.endLine == cpos.line)=true
 trees:backTo cpos (starEach [e,f] X.env)=[(false,eval e X.env),(false,eval f X.env)]
noncomputable def IsD (H:Hp) (a:Addr):Prop:=(∃ kvs,Rd H a (.dK kvs))∨∃ kvs,Rd H a (.dT kvs)
theorem zhJ_ {X:Cx}{pins:Pnn}{σ:St}{H:Hp}{s:Shared}{a:Addr}(I:Inv X pins σ H s) (d:IsD H a) :
  s.TypeIs (.ref a) "dict" ∧ (∀ b,Value.ref a=.ref b→∃ ob,s.heap.get? b=some ob∧ob.dict=none)∧(a == sysModules)=false:=by
 rcases d with ⟨kvs,e⟩ | ⟨kvs,e⟩
 ·obtain ⟨_,hd,vs,_,dd⟩:=zgC_ I.hok e
  refine ⟨dd.typeIs,fun b q=>?_,hd⟩
  cases q
  obtain ⟨ob,_,_,h1,h2,_⟩:=dd
  exact ⟨ob,h1,h2.2.1⟩
 ·obtain ⟨_,hd,xs,_,dd⟩:=zgz_ I.hok e
  refine ⟨dd.typeIs,fun b q=>?_,hd⟩
  cases q
  obtain ⟨ob,_,_,h1,h2,_⟩:=dd
  exact ⟨ob,h1,h2.2.1⟩
section
variable {X:Cx}{pins:Pnn}{σ:St}{H:Hp}{s:Shared}{a:Addr}{y d:V}{u r:Value}{o:Option V}{A:Around}{E:Value→Shared→Prop}
end
section
variable {X:Cx}{o e f:Expr}{apos cpos:Pos}{td ty tx:TE}
end
section
variable {X:Cx}{pins:Pnn}{σ:St}{H:Hp}{s:Shared}{a:Addr}{kvs:List (Key×V)}{A:Around}{E:Value→Shared→Prop}
end
section
variable {X:Cx}{pins:Pnn}{σ:St}{H:Hp}{s:Shared}{a:Addr}{y:V}{u:Value}{A:Around}{E:Value→Shared→Prop}
namespace L2
open PySem PySem.Spec PyProof.Rows
section
variable {X:Cx}
end
section
variable {κ:Type} [DecidableEq κ]
end
end L2
end
end L2
namespace L2
open PySem PySem.Spec PyProof.Rows
section
variable {X:Cx}
end
section
variable {X:Cx}{elts:List Expr}{kk:Nat}{tpos:Pos}
end
section
variable {X:Cx}{e st:Expr}{te:TE}{ts:TO}{pos p2:Pos}
end
end L2
namespace L2
open PySem PySem.Spec PyProof.Rows
noncomputable def keyV:V→Option Key
 | .int i=>some (.inl i)
 | .str z=>some (.inr z)
 | _=>none
theorem zhR_ {y:V}{k:Key}(h:keyV y=some k):y=kV k:=by
 cases y<;>first | (cases h; rfl) | cases h
noncomputable def atD (x y:V) (H:Hp) (R:Addr→List (Key×V)→Key→Prop):Prop:=match x with
 | .ref a=>(match keyV y with | some k=>∃ kvs,H a=some (.dK kvs)∧R a kvs k | none=>False)
 | _=>False
theorem zer_ {x y:V}{H:Hp}{R:Addr→List (Key×V)→Key→Prop}(h:atD x y H R):∃ a kvs k,x=.ref a∧y=kV k∧H a=some (.dK kvs)∧R a kvs k:=by
 unfold atD at h
 cases x with
 | ref a =>
  cases e:keyV y with
  | none=>rw [e] at h; exact h.elim
  | some k =>
   rw [e] at h
   obtain ⟨kvs,h1,h2⟩:=h
   exact ⟨a,kvs,k,rfl,zhR_ e,h1,h2⟩
 | _=>exact h.elim
noncomputable def mDGet (td ty:TE):TE:=fun σ H Q=>td σ H fun x H1=>ty σ H1 fun y H2=>atD x y H2 fun _ kvs k=>∃ v,valV kvs k=some v∧Q v H2
noncomputable def mDIn (neg:Bool) (ty td:TE):TE:=fun σ H Q=>ty σ H fun y H1=>td σ H1 fun x H2=>atD x y H2 fun _ kvs k=>Q (.bl (if neg then !(valV kvs k).isSome else (valV kvs k).isSome)) H2
noncomputable def mDPut (td ty tv:TE):TS:=fun D σ H=>tv σ H fun v H1=>td σ H1 fun x H2=>ty σ H2 fun y H3=>atD x y H3 fun a kvs k=>kvs.length<sizeLine∧D.nx σ (upd H3 a (.dK (putK kvs k v)))
section
variable {X:Cx}{o i e value:Expr}{pos pos' tpos:Pos}{td ty tv:TE}
theorem zgs_ (hu:X.A.units+60<cLine) (ho:PE X o td) (hi:PE X i ty) (hs:NoSl i:=by exact fun _ _=>rfl):PE X (.Subscript o i pos) (mDGet td ty):=by
 intro pins s σ H Q I h
 refine zh8_ PySem.F.slot_dict_getitem.lookup hs (thn (ho pins s σ H _ I h) fun u s1 ⟨x,H1,I1,rx,q1⟩=>thn (hi pins s1 σ H1 _ I1 q1) fun iv s2 ⟨y,H2,I2,ry,q2⟩=>?_)
 obtain ⟨a,kvs,k,rfl,rfl,hd,v,hv,q⟩:=zer_ q2
 obtain rfl:u=Value.ref a:=rx
 have g:DGet H2 a (kV k) (some v):=by rw [← hv]; exact DGet.k hd
 exact ⟨zdB_ I2 g,zeR_ (by lia) I2 g ry fun w' s3 I3 rw'=>⟨v,H2,I3,rw',q⟩⟩
theorem zgY_ (hu:X.A.units+60<cLine) (hi:PE X i ty) (ho:PE X o td):PC X .In i o (mDIn false ty td):=by
 intro pins s σ H Q I h
 refine thn (hi pins s σ H _ I h) fun iv s1 ⟨y,H1,I1,ry,q1⟩=>thn (ho pins s1 σ H1 _ I1 q1) fun u s2 ⟨x,H2,I2,rx,q2⟩=>?_
 obtain ⟨a,kvs,k,rfl,rfl,hd,q⟩:=zer_ q2
 obtain rfl:u=Value.ref a:=rx
 exact d_in (by lia) I2 (DGet.k (k:=k) hd) ry fun s3 I3=>⟨.bl (valV kvs k).isSome,H2,I3,rfl,q⟩
theorem zd4_ (hu:X.A.units+60<cLine) (hi:PE X i ty) (ho:PE X o td):PC X .NotIn i o (mDIn true ty td):=by
 intro pins s σ H Q I h
 refine thn (hi pins s σ H _ I h) fun iv s1 ⟨y,H1,I1,ry,q1⟩=>thn (ho pins s1 σ H1 _ I1 q1) fun u s2 ⟨x,H2,I2,rx,q2⟩=>?_
 obtain ⟨a,kvs,k,rfl,rfl,hd,q⟩:=zer_ q2
 obtain rfl:u=Value.ref a:=rx
 exact zhI_ (by lia) I2 (DGet.k (k:=k) hd) ry fun s3 I3=>⟨.bl (!(valV kvs k).isSome),H2,I3,rfl,q⟩
theorem zd1_ (hu:X.A.units+60<cLine) (ho:PE X o td) (hi:PE X i ty) (hv:PE X value tv) (hs:swapsWith value (some (.Subscript o i pos')) pos.line X.env=pure false:=by rfl) :
  PS X (.Assign [.Subscript o i pos'] value pos) (mDPut td ty tv):=by
 intro pins s σ H D I h
 refine wpAny_Assign_Subscript (thn (hv pins s σ H _ I h) fun r s1 ⟨v,H1,I1,rv,q1⟩=>thn (ho pins s1 σ H1 _ I1 q1) fun u s2 ⟨x,H2,I2,rx,q2⟩=>thn (hi pins s2 σ H2 _ I2 q2) fun iv s3 ⟨y,H3,I3,ry,q3⟩=>?_) hs
 obtain ⟨a,kvs,k,rfl,rfl,hd,hl,q⟩:=zer_ q3
 obtain rfl:u=Value.ref a:=rx
 exact ze6_ (by lia) I3 (DPut.k hd hl) ry rv fun s4 I4=>⟨σ,_,I4,q⟩
end
section
variable {X:Cx}{o e f:Expr}{apos cpos:Pos}{td ty tx':TE}
end
section
variable {X:Cx}{o i:Expr}{pos:Pos}{td ty:TE}
theorem zeC_ {op:CmpOp}{a b:Expr}{t:TE}(h:PC X op a b t) (h1:behindInMarks op b=false):PT X (.Compare a [op] [b] pos) (mTest t):=by
 intro pins s σ H Q I hw
 refine wpAny_isTrue_Compare1 (thn (h pins s σ H _ I hw) fun v s1 q=>thn q fun u s2 q=>thn q fun c s3 ⟨x,H1,I1,r,q⟩=>?_) h1
 cases x with
 | bl k=>cases r; exact wpAny_truthy_bool ⟨H1,I1,q⟩
 | _=>exact q.elim
theorem zfu_ (hu:X.A.units+60<cLine) (hi:PE X i ty) (ho:PE X o td) (h1:behindInMarks .In o=false:=by rfl):PT X (.Compare i [.In] [o] pos) (mTest (mDIn false ty td)):=zeC_ (zgY_ hu hi ho) h1
theorem zch_ (hu:X.A.units+60<cLine) (hi:PE X i ty) (ho:PE X o td) (h1:behindInMarks .NotIn o=false:=by rfl):PT X (.Compare i [.NotIn] [o] pos) (mTest (mDIn true ty td)):=zeC_ (zd4_ hu hi ho) h1
end
end L2
namespace L2
open PySem PySem.Spec PyProof.Rows
inductive Mo (α:Type) where
 | ok (a:α) | ex (c:String) | no
namespace Mo
variable {α β γ:Type}
noncomputable def bind (x:Mo α) (f:α→Mo β):Mo β:=match x with | .ok a=>f a | .ex c=>.ex c | .no=>.no
noncomputable def noex (x:Mo α):Mo α:=match x with | .ok a=>.ok a | _=>.no
noncomputable def lim (n:Nat) (k:Mo α):Mo α:=if n≤sizeLine then k else .no
theorem lim_ok {n:Nat}{k:Mo α}(h:n≤100000):lim n k=k:=if_pos (zaK_ h)
noncomputable def grd (p:Prop) [Decidable p] (k:Mo α):Mo α:=if p then k else .no
theorem grd_ok {p:Prop} [Decidable p] {k:Mo α}(h:p):grd p k=k:=if_pos h
noncomputable def opt (x:Option α):Mo α:=match x with | some a=>.ok a | none=>.no
end Mo
noncomputable def un (F h:Hp):Hp:=fun p=>match F p with | some o=>some o | none=>h p
noncomputable def Dj (F h:Hp):Prop:=∀ p,F p=none∨h p=none
noncomputable def Jn (h1 h2 h:Hp):Prop:=∀ p,(h1 p=none∧h p=h2 p)∨(h2 p=none∧h p=h1 p)
noncomputable def Ext (F H F' H':Hp):Prop:=Same F F'∧Same F' H'∧Same H H'∧∀ p,F p=none→F' p≠none→H p=none
theorem Ext.refl {F H:Hp}(h:Same F H):Ext F H F H:=⟨Same.refl _,h,Same.refl _,fun p a b=>absurd a b⟩
theorem Ext.trans {F H F1 H1 F2 H2:Hp}(a:Ext F H F1 H1) (b:Ext F1 H1 F2 H2):Ext F H F2 H2:=by
 obtain ⟨a1,a2,a3,a4⟩:=a
 obtain ⟨b1,b2,b3,b4⟩:=b
 refine ⟨a1.trans b1,b2,a3.trans b3,fun p hp hq=>?_⟩
 cases e:F1 p with
 | none=>exact a3.free (b4 p e hq)
 | some o=>exact a4 p hp (by rw [e]; exact Option.some_ne_none _)
theorem Ext.heap {F H H':Hp}(h:Same F H) (g:Same H H'):Ext F H F H':=⟨Same.refl _,h.trans g,g,fun p a b=>absurd a b⟩
theorem Ext.new {F H:Hp}(h:Same F H) {p:Addr}{o:HO}(hp:H p=none):Ext F H (upd F p o) (upd H p o):=by
 refine ⟨zb0_ (h.free hp) _,fun b u e=>?_,zb0_ hp _,fun q a b=>?_⟩
 ·unfold upd at e ⊢
  split
  ·rename_i z; rw [if_pos z] at e; exact e
  ·rename_i z; rw [if_neg z] at e; exact h _ _ e
 ·unfold upd at b
  split at b
  ·rename_i z; rw [z]; exact hp
  ·exact absurd a b
structure Ty (α:Type) where
 R:α→V→Hp→Prop
 mono:∀ {a v H H'},Same H H'→R a v H→R a v H'
noncomputable def Tups (H H':Hp):Prop:=∀ p xs,H p=some (.tup xs)→H' p=some (.tup xs)
noncomputable def Imm {α:Type}(T:Ty α):Prop:=∀ {a v H H'},Tups H H'→T.R a v H→T.R a v H'
noncomputable abbrev tyInt:Ty Int:=⟨fun a v _=>v=.int a,fun _ h=>h⟩
noncomputable abbrev tyStr:Ty (List Nat):=⟨fun a v _=>v=tx a,fun _ h=>h⟩
noncomputable abbrev tyBl:Ty Bool:=⟨fun a v _=>v=.bl a,fun _ h=>h⟩
noncomputable abbrev tyNon:Ty Unit:=⟨fun _ v _=>v=.non,fun _ h=>h⟩
theorem zz_:Imm tyInt:=fun _ h=>h
theorem zaa_:Imm tyStr:=fun _ h=>h
theorem zaO_:Imm tyBl:=fun _ h=>h
noncomputable abbrev tyOpt {α:Type}(T:Ty α):Ty (Option α):=⟨fun a v H=>match a with | none=>v=.non | some x=>T.R x v H∧v≠.non,fun {a v H H'} g h=>by cases a with | none=>exact h | some x=>exact ⟨T.mono g h.1,h.2⟩⟩
structure Cs (γ:Type) where
 R:γ→List V→Hp→Prop
 mono:∀ {c vs H H'},Same H H'→R c vs H→R c vs H'
noncomputable def ImmC {γ:Type}(C:Cs γ):Prop:=∀ {c vs H H'},Tups H H'→C.R c vs H→C.R c vs H'
noncomputable abbrev csNil:Cs Unit:=⟨fun _ vs _=>vs=[],fun _ h=>h⟩
noncomputable abbrev csLast {α:Type}(T:Ty α):Cs α:=⟨fun a vs H=>∃ v,vs=[v]∧T.R a v H,fun g ⟨v,e,h⟩=>⟨v,e,T.mono g h⟩⟩
noncomputable abbrev csCons {α γ:Type}(T:Ty α) (C:Cs γ):Cs (α×γ):=⟨fun a vs H=>∃ v us,vs=v::us∧T.R a.1 v H∧C.R a.2 us H,fun g ⟨v,us,e,h,q⟩=>⟨v,us,e,T.mono g h,C.mono g q⟩⟩
theorem zf6_:ImmC csNil:=fun _ h=>h
noncomputable abbrev tyTup {γ:Type}(C:Cs γ):Ty γ:=⟨fun c v H=>∃ p us,v=.ref p∧H p=some (.tup us)∧C.R c us H,fun g ⟨p,us,e,h,q⟩=>⟨p,us,e,g _ _ h,C.mono g q⟩⟩
noncomputable abbrev Prs {α:Type}(T:Ty α) (H:Hp) (xs:List α) (vs:List V):Prop:=Paired (fun x v=>T.R x v H) xs vs
theorem zaz_ {α β:Type}{R R':α→β→Prop}(h:∀ a b,R a b→R' a b):∀ {xs:List α}{ys:List β},Paired R xs ys→Paired R' xs ys
 | _,_,.nil=>.nil
 | _,_,.cons a t=>.cons (h _ _ a) (zaz_ h t)
theorem Prs.mono {α:Type}{T:Ty α}{H H':Hp}{xs:List α}{vs:List V}(g:Same H H') (h:Prs T H xs vs):Prs T H' xs vs:=zaz_ (fun _ _ r=>T.mono g r) h
theorem Prs.imm {α:Type}{T:Ty α}(i:Imm T) {H H':Hp}{xs:List α}{vs:List V}(g:Tups H H') (h:Prs T H xs vs):Prs T H' xs vs:=zaz_ (fun _ _ r=>i g r) h
noncomputable abbrev tyL {α:Type}(T:Ty α):Ty (List α):=⟨fun xs v H=>∃ p vs,v=.ref p∧H p=some (.lst vs)∧Prs T H xs vs,fun g ⟨p,vs,e,h,q⟩=>⟨p,vs,e,g _ _ h,q.mono g⟩⟩
noncomputable abbrev tySc (K:Fgg):Ty (List Int):=⟨fun xs v H=>∃ p,v=.ref p∧SqL K H p (xs.map V.int),fun g ⟨p,e,h⟩=>⟨p,e,g.seq h⟩⟩
structure Own (α:Type) where
 O:α→V→Hp→Hp→Prop
 fr:Ty α
 mono:∀ {a v F F' h},Same F F'→O a v F h→O a v F' h
 frz:∀ {a v F h},Dj F h→O a v F h→fr.R a v (un F h)
 notup:∀ {a v F h},O a v F h→∀ p xs,h p≠some (.tup xs)
noncomputable def ImmO {α:Type}(O:Own α):Prop:=∀ {a v F F' h},Tups F F'→O.O a v F h→O.O a v F' h
theorem zax_ {F h:Hp}:Same F (un F h):=fun p o e=>by unfold un; rw [e]
theorem zfa_ {F h:Hp}(d:Dj F h):Same h (un F h):=fun p o e=>by
 unfold un
 rcases d p with z | z
 ·rw [z]; exact e
 ·rw [z] at e; cases e
noncomputable abbrev owF {α:Type}(T:Ty α):Own α:=⟨fun a v F h=>(∀ p,h p=none)∧T.R a v F,T,fun g ⟨e,h⟩=>⟨e,T.mono g h⟩,fun _ ⟨_,h⟩=>T.mono zax_ h,fun ⟨e,_⟩ p xs z=>by rw [e] at z; cases z⟩
theorem zaq_ {α:Type}{T:Ty α}(i:Imm T):ImmO (owF T):=fun g ⟨e,h⟩=>⟨e,i g h⟩
noncomputable def one (p:Addr) (o:HO):Hp:=fun q=>if q=p then some o else none
theorem zah_ {p:Addr}{o:HO}:one p o p=some o:=if_pos rfl
noncomputable abbrev owL {α:Type}(T:Ty α):Own (List α):=⟨fun xs v F h=>∃ p vs,v=.ref p∧h=one p (.lst vs)∧Prs T F xs vs,tyL T,fun g ⟨p,vs,e,z,q⟩=>⟨p,vs,e,z,q.mono g⟩,
 fun d ⟨p,vs,e,z,q⟩=>⟨p,vs,e,zfa_ d _ _ (by rw [z]; exact zah_),q.mono zax_⟩,
 fun ⟨p,vs,e,z,q⟩ b xs y=>by rw [z] at y; unfold one at y; split at y<;>cases y⟩
theorem zck_ {α:Type}{T:Ty α}(i:Imm T):ImmO (owL T):=fun g ⟨p,vs,e,z,q⟩=>⟨p,vs,e,z,q.imm i g⟩
inductive Sl:Type 1 where
 | dead
 | fz {α:Type}(T:Ty α) (a:α)
 | ow {α:Type}(O:Own α) (a:α)
noncomputable def Sl.P:Sl→Option V→Hp→Hp→Prop
 | .dead,_,_,_=>True
 | .fz T a,o,F,_=>∃ v,o=some v∧T.R a v F
 | .ow O a,o,F,h=>∃ v,o=some v∧O.O a v F h
noncomputable def Sl.Z:Sl→Option V→Hp→Prop
 | .dead,_,_=>True
 | .fz T a,o,F=>∃ v,o=some v∧T.R a v F
 | .ow O a,o,F=>∃ v,o=some v∧O.fr.R a v F
noncomputable def Sl.cold:Sl→Sl
 | .ow _ _=>.dead
 | s=>s
noncomputable def Hold:List Sl→St→Hp→Hp→Prop
 | [],[],_,_=>True
 | s::L,o::σ,F,h=>∃ h1 h2,Jn h1 h2 h∧s.P o F h1∧Hold L σ F h2
 | _,_,_,_=>False
noncomputable def HoldF (L:List Sl) (σ:St) (F:Hp):Prop:=∀ (i:Nat) (s:Sl),L[i]?=some s→s.Z (σ[i]?.join) F
theorem Sl.P.mono {s:Sl}{o:Option V}{F F' h:Hp}(g:Same F F') (q:s.P o F h):s.P o F' h:=by
 cases s with
 | dead=>exact q
 | fz T a=>obtain ⟨v,e,r⟩:=q; exact ⟨v,e,T.mono g r⟩
 | ow O a=>obtain ⟨v,e,r⟩:=q; exact ⟨v,e,O.mono g r⟩
theorem Sl.Z.mono {s:Sl}{o:Option V}{F F':Hp}(g:Same F F') (q:s.Z o F):s.Z o F':=by
 cases s with
 | dead=>exact q
 | fz T a=>obtain ⟨v,e,r⟩:=q; exact ⟨v,e,T.mono g r⟩
 | ow O a=>obtain ⟨v,e,r⟩:=q; exact ⟨v,e,O.fr.mono g r⟩
theorem HoldF.mono {L:List Sl}{σ:St}{F F':Hp}(g:Same F F') (q:HoldF L σ F):HoldF L σ F':=fun i s e=>(q i s e).mono g
theorem Hold.mono:∀ {L:List Sl}{σ:St}{F F' h:Hp},Same F F'→Hold L σ F h→Hold L σ F' h
 | [],[],_,_,_,_,q=>q
 | s::L,o::σ,F,F',h,g,⟨h1,h2,j,p,r⟩=>⟨h1,h2,j,p.mono g,r.mono g⟩
 | [],_::_,_,_,_,_,q=>q.elim
 | _::_,[],_,_,_,_,q=>q.elim
theorem Hold.len:∀ {L:List Sl}{σ:St}{F h:Hp},Hold L σ F h→L.length=σ.length
 | [],[],_,_,_=>rfl
 | s::L,o::σ,F,h,⟨h1,h2,j,p,r⟩=>by rw [List.length_cons,List.length_cons,r.len]
 | [],_::_,_,_,q=>q.elim
 | _::_,[],_,_,q=>q.elim
theorem Jn.l {h1 h2 h:Hp}(j:Jn h1 h2 h):Same h1 h:=fun p o e=>by
 rcases j p with ⟨a,b⟩ | ⟨a,b⟩
 ·rw [a] at e; cases e
 ·rw [b]; exact e
theorem Jn.r {h1 h2 h:Hp}(j:Jn h1 h2 h):Same h2 h:=fun p o e=>by
 rcases j p with ⟨a,b⟩ | ⟨a,b⟩
 ·rw [b]; exact e
 ·rw [a] at e; cases e
theorem Jn.dj {h1 h2 h:Hp}(j:Jn h1 h2 h):Dj h1 h2:=fun p=>by
 rcases j p with ⟨a,b⟩ | ⟨a,b⟩
 ·exact .inl a
 ·exact .inr a
theorem zfF_ {h1 h2:Hp}(d:Dj h1 h2):Jn h1 h2 (un h1 h2):=fun p=>by
 unfold un
 rcases d p with a | a
 ·rw [a]; exact .inl ⟨rfl,rfl⟩
 ·refine .inr ⟨a,?_⟩
  cases h1 p with
  | none=>exact a
  | some o=>rfl
theorem Hold.at:∀ {L:List Sl}{σ:St}{F h:Hp}(i:Nat) {s:Sl},Hold L σ F h→L[i]?=some s →
  ∃ o h1 h2,σ[i]?=some o∧Jn h1 h2 h∧s.P o F h1∧∀ s' o' h1' h',Jn h1' h2 h'→s'.P o' F h1'→Hold (L.set i s') (σ.set i o') F h'
 | [],_,_,_,_,_,_,e=>by cases e
 | s::L,[],_,_,_,_,q,_=>q.elim
 | s::L,o::σ,F,h,0,t,⟨h1,h2,j,p,r⟩,e=>by
  cases e
  exact ⟨o,h1,h2,rfl,j,p,fun s' o' h1' h' j' p'=>⟨h1',h2,j',p',r⟩⟩
 | s::L,o::σ,F,h,i+1,t,⟨h1,h2,j,p,r⟩,e=>by
  obtain ⟨o1,k1,k2,e1,j1,p1,f⟩:=Hold.at i r (by simpa using e)
  have d1:Dj h1 k1:=fun p=>by
   rcases j.dj p with a | a
   ·exact .inl a
   ·exact .inr (j1.l.free a)
  have d2:Dj h1 k2:=fun p=>by
   rcases j.dj p with a | a
   ·exact .inl a
   ·exact .inr (j1.r.free a)
  refine ⟨o1,k1,un h1 k2,by simpa using e1,fun p=>?_,p1,fun s' o' k1' h' j' p'=>?_⟩
  ·rcases j p with ⟨a,b⟩ | ⟨a,b⟩
   ·rcases j1 p with ⟨c,d⟩ | ⟨c,d⟩
    ·refine .inl ⟨c,?_⟩; unfold un; rw [a,b,d]
    ·refine .inr ⟨?_,by rw [b,d]⟩; unfold un; rw [a,c]
   ·refine .inl ⟨j1.l.free a,?_⟩
    have:k2 p=none:=j1.r.free a
    unfold un; rw [b]
    cases h1 p with
    | none=>rw [this]
    | some u=>rfl
  ·have dd:Dj k1' k2:=fun p=>by
    rcases j' p with ⟨a,b⟩ | ⟨a,b⟩
    ·exact .inl a
    ·right; unfold un at a
     cases z:h1 p with
     | none=>rw [z] at a; exact a
     | some u=>rw [z] at a; cases a
   refine ⟨h1,un k1' k2,fun p=>?_,p,f s' o' k1' _ (zfF_ dd) p'⟩
   rcases j' p with ⟨a,b⟩ | ⟨a,b⟩
   ·unfold un at b ⊢
    cases z:h1 p with
    | none=>rw [z] at b; exact .inl ⟨rfl,by rw [b,a]⟩
    | some u =>
     rw [z] at b
     refine .inr ⟨?_,b⟩
     rw [a]
     rcases d2 p with y | y
     ·rw [y] at z; cases z
     ·exact y
   ·unfold un at a
    cases z:h1 p with
    | some u=>rw [z] at a; cases a
    | none =>
     rw [z] at a
     refine .inl ⟨rfl,?_⟩
     unfold un; rw [b]
     cases k1' p with
     | none=>exact a.symm
     | some u=>rfl
theorem Hold.froz {L:List Sl}{σ:St}{F h:Hp}(d:Dj F h) (q:Hold L σ F h):HoldF L σ (un F h):=by
 intro i s e
 obtain ⟨o,h1,h2,e1,j,p,_⟩:=q.at i e
 rw [e1]
 have d1:Dj F h1:=fun p=>by
  rcases d p with a | a
  ·exact .inl a
  ·exact .inr (j.l.free a)
 cases s with
 | dead=>trivial
 | fz T a=>obtain ⟨v,e2,r⟩:=p; exact ⟨v,e2,T.mono zax_ r⟩
 | ow O a =>
  obtain ⟨v,e2,r⟩:=p
  refine ⟨v,e2,O.fr.mono (fun p u z=>?_) (O.frz d1 r)⟩
  unfold un at z ⊢
  cases y:F p with
  | some w=>rw [y] at z; exact z
  | none=>rw [y] at z; exact j.l _ _ z
theorem Hold.coldF {L:List Sl}{σ:St}{F h:Hp}(q:Hold L σ F h):HoldF (L.map Sl.cold) σ F:=by
 intro i s e
 rw [List.getElem?_map] at e
 cases e1:L[i]? with
 | none=>rw [e1] at e; cases e
 | some t =>
  rw [e1] at e
  cases e
  obtain ⟨o,h1,h2,e2,j,p,_⟩:=q.at i e1
  rw [e2]
  cases t with
  | dead=>trivial
  | fz T a=>obtain ⟨v,e2,r⟩:=p; exact ⟨v,e2,r⟩
  | ow O a=>trivial
end L2
namespace L2
open PySem PySem.Spec PyProof.Rows
noncomputable def After {α:Type}(K:Fgg) (r:Mo α) (E:XK) (F H:Hp) (k:α→Hp→Hp→Prop):Prop:=match r with
 | .ok a=>∀ F' H',Ext F H F' H'→k a F' H'
 | .ex c=>∀ F' H',Ext F H F' H'→E (.ref (gA K c)) none H'
 | .no=>False
section
variable {K:Fgg}{E:XK}{α β γ ρ:Type}{F H:Hp}
theorem After.bind {r:Mo α}{f:α→Mo β}{k:β→Hp→Hp→Prop}(h:After K (r.bind f) E F H k):After K r E F H fun a F1 H1=>After K (f a) E F1 H1 k:=by
 cases r with
 | ok a =>
  intro F1 H1 x
  have h':After K (f a) E F H k:=h
  cases e:f a with
  | ok b=>rw [e] at h'; exact fun F2 H2 y=>h' F2 H2 (x.trans y)
  | ex c=>rw [e] at h'; exact fun F2 H2 y=>h' F2 H2 (x.trans y)
  | no=>rw [e] at h'; exact h'
 | ex c=>exact h
 | no=>exact h
theorem After.imp {r:Mo α}{k k':α→Hp→Hp→Prop}(h:After K r E F H k) (g:∀ a F' H',Ext F H F' H'→k a F' H'→k' a F' H'):After K r E F H k':=by
 cases r with
 | ok a=>exact fun F' H' x=>g a F' H' x (h F' H' x)
 | ex c=>exact h
 | no=>exact h
theorem After.ok {a:α}{k:α→Hp→Hp→Prop}(hs:Same F H) (h:After K (.ok a) E F H k):k a F H:=h F H (.refl hs)
theorem After.noex {r:Mo α}{k:α→Hp→Hp→Prop}(h:After K r.noex E F H k):After K r E0 F H k:=by
 cases r with
 | ok a=>exact h
 | ex c=>exact h.elim
 | no=>exact h
theorem After.lim {n:Nat}{r:Mo α}{k:α→Hp→Hp→Prop}(h:After K (Mo.lim n r) E F H k):n≤sizeLine∧After K r E F H k:=by
 unfold Mo.lim at h
 split at h
 ·exact ⟨by assumption,h⟩
 ·exact h.elim
theorem After.grd {p:Prop} [Decidable p] {r:Mo α}{k:α→Hp→Hp→Prop}(h:After K (Mo.grd p r) E F H k):p∧After K r E F H k:=by
 unfold Mo.grd at h
 split at h
 ·exact ⟨by assumption,h⟩
 ·exact h.elim
theorem After.opt {x:Option α}{k:α→Hp→Hp→Prop}(h:After K (Mo.opt x) E F H k):∃ a,x=some a∧After K (.ok a) E F H k:=by
 cases x with
 | none=>exact h.elim
 | some a=>exact ⟨a,rfl,h⟩
noncomputable def EvF (K:Fgg) (e:TE) (E:XK) (L:List Sl) (r:Mo α) (T:Ty α):Prop :=
 ∀ σ F H (Q:VK),HoldF L σ F→Same F H→After K r E F H (fun a F' H'=>∀ v,T.R a v F'→Q v H')→e σ H Q
noncomputable def OwnK (O:Own α) (H:Hp) (Q:VK) (a:α) (F' H':Hp):Prop:=∀ v h,(∀ p,h p≠none→H p=none)→Dj F' h→Same h H'→O.O a v F' h→Q v H'
noncomputable def EvO (K:Fgg) (e:TE) (E:XK) (L:List Sl) (r:Mo α) (O:Own α):Prop :=
 ∀ σ F H (Q:VK),HoldF L σ F→Same F H→After K r E F H (OwnK O H Q)→e σ H Q
noncomputable def EvT (K:Fgg) (t:TT) (E:XK) (L:List Sl) (r:Mo Bool):Prop :=
 ∀ σ F H (Q:Bool→Hp→Prop),HoldF L σ F→Same F H→After K r E F H (fun b _ H'=>Q b H')→t σ H Q
noncomputable def EvA (K:Fgg) (t:TA) (E:XK) (L:List Sl) (r:Mo γ) (C:Cs γ):Prop :=
 ∀ σ F H (Q:List V→Hp→Prop),HoldF L σ F→Same F H→After K r E F H (fun c F' H'=>∀ vs,C.R c vs F'→Q vs H')→t σ H Q
variable {L:List Sl}{e e1 e2:TE}{T:Ty α}{r:Mo α}
theorem EvO.fr {O:Own α}(h:EvO K e E L r O):EvF K e E L r O.fr:=by
 intro σ F H Q hL hs q
 refine h σ F H Q hL hs ?_
 cases r with
 | ok a =>
  intro F' H' x v h' fresh d s o
  refine q (un F' h') H' ⟨x.1.trans zax_,fun p o e=>?_,x.2.2.1,fun p a b=>?_⟩ v (O.frz d o)
  ·unfold un at e
   cases z:F' p with
   | some w=>rw [z] at e; cases e; exact x.2.1 _ _ z
   | none=>rw [z] at e; exact s _ _ e
  ·unfold un at b
   cases z:F' p with
   | some w=>exact x.2.2.2 p a (by rw [z]; exact Option.some_ne_none _)
   | none=>rw [z] at b; exact fresh p b
 | ex c=>exact q
 | no=>exact q
theorem EvF.ow (h:EvF K e E L r T):EvO K e E L r (owF T):=by
 intro σ F H Q hL hs q
 refine h σ F H Q hL hs (q.imp fun a F' H' x k v hv=>?_)
 exact k v (fun _=>none) (fun p z=>absurd rfl z) (fun p=>.inr rfl) (fun p o z=>by cases z) ⟨fun _=>rfl,hv⟩
theorem ev_c {v:V}{a:α}(h:∀ F,T.R a v F):EvF K (tC v) E L (.ok a) T:=fun σ F H Q hL hs q=>q.ok hs v (h F)
theorem zx_ (i:Int):EvF K (tC (.int i)) E L (.ok i) tyInt:=ev_c fun _=>rfl
theorem zcf_ (l:List Nat):EvF K (tC (tx l)) E L (.ok l) tyStr:=ev_c fun _=>rfl
theorem ze1_ (b:Bool):EvF K (tC (.bl b)) E L (.ok b) tyBl:=ev_c fun _=>rfl
theorem zeE_:EvF K (tC .non) E L (.ok ()) tyNon:=ev_c fun _=>rfl
theorem zic_ {β:Type}{T:Ty β}:EvF K (tC .non) E L (.ok (none:Option β)) (tyOpt T):=ev_c fun _=>rfl
theorem zgT_ (hn:∀ a v F,T.R a v F→v≠.non) (h:EvF K e E L r T):EvF K e E L (r.bind fun a=>.ok (some a)) (tyOpt T):=by
 intro σ F H Q hL hs q
 exact h σ F H Q hL hs (q.bind.imp fun a F1 H1 x k v hv=>k.ok x.2.1 v ⟨hv,hn _ _ _ hv⟩)
theorem zc_ (i:Nat) {a:α}(h:L[i]?=some (.fz T a)):EvF K (mVar i) E L (.ok a) T:=by
 intro σ F H Q hL hs q
 obtain ⟨v,e,r⟩:=hL i _ h
 unfold mVar
 cases z:σ[i]? with
 | none=>rw [z] at e; cases e
 | some o =>
  rw [z] at e
  cases (show o=some v from e)
  exact q.ok hs v r
theorem zbH_ (i:Nat) {O:Own α}{a:α}(h:L[i]?=some (.ow O a)):EvF K (mVar i) E L (.ok a) O.fr:=by
 intro σ F H Q hL hs q
 obtain ⟨v,e,r⟩:=hL i _ h
 unfold mVar
 cases z:σ[i]? with
 | none=>rw [z] at e; cases e
 | some o =>
  rw [z] at e
  cases (show o=some v from e)
  exact q.ok hs v r
noncomputable def Op2 (K:Fgg) (m:R2) (E:XK) (T1:Ty α) (T2:Ty β) (g:α→β→Mo γ) (T:Ty γ):Prop :=
 ∀ a b x y F H (Q:VK),Same F H→T1.R a x F→T2.R b y F→After K (g a b) E F H (fun c F' H'=>∀ v,T.R c v F'→Q v H')→m x y H Q
noncomputable def Op2O (K:Fgg) (m:R2) (E:XK) (T1:Ty α) (T2:Ty β) (g:α→β→Mo γ) (O:Own γ):Prop :=
 ∀ a b x y F H (Q:VK),Same F H→T1.R a x F→T2.R b y F→After K (g a b) E F H (OwnK O H Q)→m x y H Q
theorem OwnK.back {O:Own α}{H H1:Hp}{Q:VK}{a:α}{F' H':Hp}(g:Same H H1) (h:OwnK O H Q a F' H'):OwnK O H1 Q a F' H' :=
 fun v k fresh d s o=>h v k (fun p z=>g.free (fresh p z)) d s o
theorem zY_ {m:R2}{T1:Ty α}{T2:Ty β}{T:Ty γ}{g:α→β→Mo γ}{r1:Mo α}{r2:Mo β}(hop:Op2 K m E T1 T2 g T) (h1:EvF K e1 E L r1 T1) (h2:EvF K e2 E L r2 T2) :
  EvF K (tOp m e1 e2) E L (r1.bind fun a=>r2.bind fun b=>g a b) T:=by
 intro σ F H Q hL hs q
 refine h1 σ F H _ hL hs (q.bind.imp fun a F1 H1 x1 k1 v1 hv1=>?_)
 refine h2 σ F1 H1 _ (hL.mono x1.1) x1.2.1 (k1.bind.imp fun b F2 H2 x2 k2 v2 hv2=>?_)
 exact hop a b v1 v2 F2 H2 Q x2.2.1 (T1.mono x2.1 hv1) hv2 k2
theorem zir_ {m:R2}{T1:Ty α}{T2:Ty β}{O:Own γ}{g:α→β→Mo γ}{r1:Mo α}{r2:Mo β}(hop:Op2O K m E T1 T2 g O) (h1:EvF K e1 E L r1 T1) (h2:EvF K e2 E L r2 T2) :
  EvO K (tOp m e1 e2) E L (r1.bind fun a=>r2.bind fun b=>g a b) O:=by
 intro σ F H Q hL hs q
 refine h1 σ F H _ hL hs (q.bind.imp fun a F1 H1 x1 k1 v1 hv1=>?_)
 refine h2 σ F1 H1 _ (hL.mono x1.1) x1.2.1 (k1.bind.imp fun b F2 H2 x2 k2 v2 hv2=>?_)
 exact hop a b v1 v2 F2 H2 Q x2.2.1 (T1.mono x2.1 hv1) hv2 (k2.imp fun c F3 H3 x3 k3=>k3.back (x1.2.2.1.trans x2.2.2.1))
theorem op_i0 {g:Int→Int→V}{f:Int→Int→α}(h:∀ i j F,T.R (f i j) (g i j) F):Op2 K (mI0 g) E tyInt tyInt (fun i j=>.ok (f i j)) T:=by
 intro a b x y F H Q hs hx hy q
 cases hx; cases hy
 exact q.ok hs _ (h a b F)
theorem op_i {C:Int→Int→Prop} [∀ i j,Decidable (C i j)] {g:Int→Int→V}{f:Int→Int→α}(h:∀ i j F,T.R (f i j) (g i j) F):Op2 K (mI C g) E tyInt tyInt (fun i j=>.grd (C i j) (.ok (f i j))) T:=by
 intro a b x y F H Q hs hx hy q
 cases hx; cases hy
 obtain ⟨c,q⟩:=q.grd
 exact ⟨c,q.ok hs _ (h a b F)⟩
instance (i j:Int):Decidable (CMul i j):=inferInstanceAs (Decidable (_∨_))
instance (i j:Int):Decidable (CDiv i j):=inferInstanceAs (Decidable (_∧_))
instance (i j:Int):Decidable (CPow i j):=inferInstanceAs (Decidable (_∧_∧_))
theorem zb8_:Op2 K mAdd E tyInt tyInt (fun i j=>.ok (i+j)) tyInt:=by
 intro a b x y F H Q hs hx hy q
 cases hx; cases hy
 exact q.ok hs _ rfl
theorem zhV_:Op2 K mSub E tyInt tyInt (fun i j=>.ok (i-j)) tyInt:=op_i0 fun _ _ _=>rfl
theorem zaw_:Op2 K mMod E tyInt tyInt (fun i j=>.grd (0<j) (.ok (i % j))) tyInt:=op_i (C:=fun _ j=>0<j) fun _ _ _=>rfl
theorem zhx_:Op2 K mGe E tyInt tyInt (fun i j=>.ok (decide (j≤i))) tyBl:=op_i0 fun _ _ _=>rfl
theorem zhu_:Op2 K mAdd E tyStr tyStr (fun i j=>.lim (i.length+j.length) (.ok (i++j))) tyStr:=by
 intro a b x y F H Q hs hx hy q
 cases hx; cases hy
 obtain ⟨c,q⟩:=q.lim
 exact ⟨c,q.ok hs _ rfl⟩
theorem Prs.append {xs ys:List α}{vs us:List V}(a:Prs T H xs vs) (b:Prs T H ys us):Prs T H (xs++ys) (vs++us):=by
 induction a with
 | nil=>exact b
 | cons r t ih=>exact .cons r ih
theorem Prs.len {xs:List α}{vs:List V}(a:Prs T H xs vs):xs.length=vs.length:=Paired.length a
theorem Prs.get {xs:List α}{vs:List V}(a:Prs T H xs vs) (i:Nat):(xs[i]?=none∧vs[i]?=none)∨∃ x v,xs[i]?=some x∧vs[i]?=some v∧T.R x v H:=by
 induction a generalizing i with
 | nil=>exact .inl ⟨rfl,rfl⟩
 | cons r t ih =>
  cases i with
  | zero=>exact .inr ⟨_,_,rfl,rfl,r⟩
  | succ i=>simpa using ih i
theorem Prs.take {xs:List α}{vs:List V}(a:Prs T H xs vs) (n:Nat):Prs T H (xs.take n) (vs.take n):=by
 induction a generalizing n with
 | nil=>rw [List.take_nil,List.take_nil]; exact .nil
 | cons r t ih =>
  cases n with
  | zero=>exact .nil
  | succ n=>exact .cons r (ih n)
theorem Prs.drop {xs:List α}{vs:List V}(a:Prs T H xs vs) (n:Nat):Prs T H (xs.drop n) (vs.drop n):=by
 induction a generalizing n with
 | nil=>rw [List.drop_nil,List.drop_nil]; exact .nil
 | cons r t ih =>
  cases n with
  | zero=>exact .cons r t
  | succ n=>exact ih n
theorem zik_ {vs:List V}{xs:List α}{p:Addr}{F' H':Hp}{Q:VK}(hp:H p=none) (h2:H' p=some (.lst vs)) (hf:F' p=none) (hr:Prs T F' xs vs) (q:OwnK (owL T) H Q xs F' H'):Q (.ref p) H':=by
 refine q (.ref p) (one p (.lst vs)) (fun b z=>?_) (fun b=>?_) (fun b o z=>?_) ⟨p,vs,rfl,rfl,hr⟩
 ·unfold one at z; split at z
  ·rename_i e; rw [e]; exact hp
  ·exact absurd rfl z
 ·unfold one; split
  ·rename_i e; rw [e]; exact .inl hf
  ·exact .inr rfl
 ·unfold one at z; split at z
  ·rename_i e; rw [e]; cases z; exact h2
  ·cases z
theorem zcn_ {vs:List V}{xs:List α}{p:Addr}{Q:VK}(hs:Same F H) (hp:H p=none) (hr:Prs T F xs vs) (q:After K (.ok xs) E F H (OwnK (owL T) H Q)):Q (.ref p) (upd H p (.lst vs)) :=
 zik_ hp zL_ (hs.free hp) hr (q F _ (.heap hs (zb0_ hp _)))
theorem zgX_:Op2O K mAdd E (tyL T) (tyL T) (fun i j=>.lim (i.length+j.length) (.ok (i++j))) (owL T):=by
 rintro a b x y F H Q hs ⟨p,vs,rfl,h1,r1⟩ ⟨p2,us,rfl,h2,r2⟩ q
 obtain ⟨c,q⟩:=q.lim
 exact ⟨vs,us,hs _ _ h1,hs _ _ h2,by rw [← r1.len,← r2.len]; exact c,fun p hp=>zcn_ hs hp (r1.append r2) q⟩
theorem ziK_:EvA K tNil E L (.ok ()) csNil:=fun σ F H Q hL hs q=>q.ok hs [] rfl
theorem zt_ (h:EvF K e E L r T):EvA K (tCons e tNil) E L r (csLast T):=by
 intro σ F H Q hL hs q
 exact h σ F H _ hL hs (q.imp fun a F1 H1 x k v hv=>k [v] ⟨v,rfl,hv⟩)
theorem zT_ {ta:TA}{r2:Mo γ}{C:Cs γ}(h:EvF K e E L r T) (h2:EvA K ta E L r2 C):EvA K (tCons e ta) E L (r.bind fun a=>r2.bind fun c=>.ok (a,c)) (csCons T C):=by
 intro σ F H Q hL hs q
 refine h σ F H _ hL hs (q.bind.imp fun a F1 H1 x1 k1 v1 hv1=>?_)
 refine h2 σ F1 H1 _ (hL.mono x1.1) x1.2.1 (k1.bind.imp fun c F2 H2 x2 k2 vs hvs=>?_)
 exact k2.ok x2.2.1 (v1::vs) ⟨v1,vs,rfl,T.mono x2.1 hv1,hvs⟩
noncomputable def Ct (K:Fgg) (C:Cs γ) (f:γ→Mo ρ) (O:Own ρ):Sp:=fun vs H Q E=>∃ F c,Same F H∧C.R c vs F∧After K (f c) E F H (OwnK O H Q)
theorem zbv_ {C:Cs γ}{f:γ→Mo ρ}{O:Own ρ}{ta:TA}{r:Mo γ}(h:EvA K ta E L r C):EvO K (tCall (Ct K C f O) [] E0 ta) E L (r.bind fun c=>(f c).noex) O:=by
 intro σ F H Q hL hs q
 refine h σ F H _ hL hs (q.bind.imp fun c F1 H1 x1 k1 vs hvs=>?_)
 rw [List.append_nil]
 exact ⟨F1,c,x1.2.1,hvs,k1.noex.imp fun r F2 H2 x2 k2=>k2.back x1.2.2.1⟩
noncomputable def Bl (K:Fgg) (m:List V→Hp→VK→Prop) (E:XK) (C:Cs γ) (g:γ→Mo α) (T:Ty α):Prop :=
 ∀ c vs F H (Q:VK),Same F H→C.R c vs F→After K (g c) E F H (fun c F' H'=>∀ v,T.R c v F'→Q v H')→m vs H Q
noncomputable def BlO (K:Fgg) (m:List V→Hp→VK→Prop) (E:XK) (C:Cs γ) (g:γ→Mo α) (O:Own α):Prop :=
 ∀ c vs F H (Q:VK),Same F H→C.R c vs F→After K (g c) E F H (OwnK O H Q)→m vs H Q
theorem zhm_ {m:List V→Hp→VK→Prop}{C:Cs γ}{g:γ→Mo α}{ta:TA}{r:Mo γ}(hb:Bl K m E C g T) (h:EvA K ta E L r C):EvF K (tCB m ta) E L (r.bind g) T:=by
 intro σ F H Q hL hs q
 exact h σ F H _ hL hs (q.bind.imp fun c F1 H1 x1 k1 vs hvs=>hb c vs F1 H1 Q x1.2.1 hvs k1)
theorem zhP_ {m:List V→Hp→VK→Prop}{C:Cs γ}{g:γ→Mo α}{O:Own α}{ta:TA}{r:Mo γ}(hb:BlO K m E C g O) (h:EvA K ta E L r C):EvO K (tCB m ta) E L (r.bind g) O:=by
 intro σ F H Q hL hs q
 exact h σ F H _ hL hs (q.bind.imp fun c F1 H1 x1 k1 vs hvs=>hb c vs F1 H1 Q x1.2.1 hvs (k1.imp fun a F2 H2 x2 k2=>k2.back x1.2.2.1))
theorem zea_:Bl K (mLen K) E (csLast (tyL T)) (fun l=>.ok (l.length:Int)) tyInt:=by
 rintro c vs F H Q hs ⟨v,rfl,p,us,rfl,h,r⟩ q
 exact ⟨us,.inl (.of (hs _ _ h)),q.ok hs _ (by rw [r.len])⟩
theorem zgj_:Bl K (mLen K) E (csLast (tySc K)) (fun l=>.ok (l.length:Int)) tyInt:=by
 rintro c vs F H Q hs ⟨v,rfl,p,rfl,h⟩ q
 exact ⟨_,.inl (hs.seq h),q.ok hs _ (by rw [List.length_map])⟩
theorem zfy_:BlO K (mList K) E (csLast (tyL T)) (fun l=>.ok l) (owL T):=by
 rintro c vs F H Q hs ⟨v,rfl,p,us,rfl,h,r⟩ q
 exact .inl ⟨us,.inl (.of (hs _ _ h)),fun l hl=>zcn_ hs hl r q⟩
theorem zfj_ {xs:List Int}:Prs tyInt H xs (xs.map V.int):=by
 induction xs with
 | nil=>exact .nil
 | cons x xs ih=>exact .cons rfl ih
theorem zfO_:Op2 K (mIx K) E tyStr tyInt (fun l i=>.lim l.length (.opt ((atI l i).map fun c=>[c]))) tyStr:=by
 rintro a b x y F H Q hs rfl rfl q
 obtain ⟨z,q⟩:=q.lim
 obtain ⟨l,e,q⟩:=q.opt
 refine ⟨z,?_⟩
 show (match atI a b with | some c=>Q (tx [c]) H | none=>False)
 cases e1:atI a b with
 | none=>rw [e1] at e; cases e
 | some c=>rw [e1] at e; cases e; exact q.ok hs _ rfl
theorem zfH_ {xs:List α}{vs:List V}(r:Prs T H xs vs) {i:Int}{x:α}(e:atI xs i=some x):∃ v,atI vs i=some v∧T.R x v H:=by
 unfold atI at e ⊢
 rw [← r.len]
 cases e1:ixN xs.length i with
 | none=>rw [e1] at e; cases e
 | some j =>
  rw [e1] at e
  rcases r.get j with ⟨a,b⟩ | ⟨y,v,a,b,c⟩
  ·have:xs[j]?=some x:=e
   rw [a] at this; cases this
  ·have:xs[j]?=some x:=e
   rw [a] at this; cases this
   exact ⟨v,b,c⟩
theorem zgw_:Op2 K (mIx K) E (tyL T) tyInt (fun l i=>.opt (atI l i)) T:=by
 rintro a b x y F H Q hs ⟨p,vs,rfl,h,r⟩ rfl q
 obtain ⟨l,e,q⟩:=q.opt
 refine ⟨vs,.inl (.of (hs _ _ h)),?_⟩
 obtain ⟨v,e2,rv⟩:=zfH_ r e
 rw [e2]
 exact q.ok hs v rv
theorem zgK_:Op2 K (mIx K) E (tySc K) tyInt (fun l i=>.opt (atI l i)) tyInt:=by
 rintro a b x y F H Q hs ⟨p,rfl,h⟩ rfl q
 obtain ⟨l,e,q⟩:=q.opt
 refine ⟨_,.inl (hs.seq h),?_⟩
 obtain ⟨v,e2,rv⟩:=zfH_ (H:=F) zfj_ e
 rw [e2]
 exact q.ok hs v rv
noncomputable def CsAt (C:Cs γ) (i:Nat) (T:Ty α) (pr:γ→α):Prop:=∀ {c vs H},C.R c vs H→∃ v,vs[i]?=some v∧T.R (pr c) v H
theorem zfg_:CsAt (csLast T) 0 T id:=fun ⟨v,e,h⟩=>⟨v,by rw [e]; rfl,h⟩
theorem at_0 {C:Cs γ}:CsAt (csCons T C) 0 T Prod.fst:=fun ⟨v,us,e,h,q⟩=>⟨v,by rw [e]; rfl,h⟩
theorem at_s {C:Cs γ}{i:Nat}{pr:γ→α}{T':Ty β}(h:CsAt C i T pr):CsAt (csCons T' C) (i+1) T (fun c=>pr c.2):=fun ⟨v,us,e,_,q⟩=>by
 obtain ⟨w,e2,r⟩:=h q
 exact ⟨w,by rw [e]; exact e2,r⟩
theorem zey_ {C:Cs γ}{i:Nat}{pr:γ→α}{r:Mo γ}(ha:CsAt C i T pr) (h:EvF K e E L r (tyTup C)):EvF K (tOp (mIx K) e (tC (.int i))) E L (r.bind fun c=>.ok (pr c)) T:=by
 intro σ F H Q hL hs q
 refine h σ F H _ hL hs (q.bind.imp fun c F1 H1 x1 k1 v1 ⟨p,us,ev,hp,hc⟩=>?_)
 subst ev
 obtain ⟨w,e2,rw'⟩:=ha hc
 refine ⟨us,.inr (.of (x1.2.1 _ _ hp)),?_⟩
 have e3:atI us (i:Int)=some w:=by
  unfold atI
  rw [zjp_ (by lia) (by have:=(List.getElem?_eq_some_iff.mp e2).1; lia)]
  simpa using e2
 rw [e3]
 exact k1.ok x1.2.1 w rw'
end
end L2
namespace L2
open PySem PySem.Spec PyProof.Rows
section
variable {K:Fgg}{E:XK}{α β γ ρ:Type}{F H:Hp}{L:List Sl}{e e1 e2:TE}{T:Ty α}{r:Mo α}
variable {t t1 t2:TT}{b b1 b2:Mo Bool}
theorem zE_ (h:EvF K e E L b tyBl):EvT K (mTest e) E L b:=by
 intro σ F H Q hL hs q
 refine h σ F H _ hL hs (q.imp fun a F1 H1 x k v hv=>?_)
 cases hv
 exact k
theorem zb4_ (h:EvT K t E L b):EvT K (tNot t) E L (b.bind fun c=>.ok (!c)):=by
 intro σ F H Q hL hs q
 exact h σ F H _ hL hs (q.bind.imp fun a F1 H1 x k=>k.ok x.2.1)
theorem zdz_ (h1:EvT K t1 E L b1) (h2:EvT K t2 E L b2):EvT K (mAnd t1 t2) E L (b1.bind fun c=>if c then b2 else .ok false):=by
 intro σ F H Q hL hs q
 refine h1 σ F H _ hL hs (q.bind.imp fun a F1 H1 x k=>⟨fun c=>?_,fun c=>?_⟩)
 ·rw [if_pos c] at k; exact h2 σ F1 H1 _ (hL.mono x.1) x.2.1 k
 ·rw [if_neg (by rw [c]; decide)] at k; exact k.ok x.2.1
theorem zfJ_ (h1:EvT K t1 E L b1) (h2:EvT K t2 E L b2):EvT K (mOr t1 t2) E L (b1.bind fun c=>if c then .ok true else b2):=by
 intro σ F H Q hL hs q
 refine h1 σ F H _ hL hs (q.bind.imp fun a F1 H1 x k=>⟨fun c=>?_,fun c=>?_⟩)
 ·rw [if_pos c] at k; exact k.ok x.2.1
 ·rw [if_neg (by rw [c]; decide)] at k; exact h2 σ F1 H1 _ (hL.mono x.1) x.2.1 k
theorem ziw_ (h1:EvF K e1 E L b1 tyBl) (h2:EvF K e2 E L b2 tyBl):EvF K (mAndV e1 e2) E L (b1.bind fun c=>if c then b2 else .ok false) tyBl:=by
 intro σ F H Q hL hs q
 refine h1 σ F H _ hL hs (q.bind.imp fun a F1 H1 x k v hv=>?_)
 cases hv
 refine ⟨fun c=>?_,fun c=>?_⟩
 ·rw [if_pos c] at k; exact h2 σ F1 H1 _ (hL.mono x.1) x.2.1 k
 ·rw [if_neg (by rw [c]; decide)] at k; exact k.ok x.2.1 _ rfl
theorem zi6_ (h1:EvF K e1 E L b1 tyBl):EvF K (mNotV e1) E L (b1.bind fun c=>.ok (!c)) tyBl:=by
 intro σ F H Q hL hs q
 refine h1 σ F H _ hL hs (q.bind.imp fun a F1 H1 x k v hv=>?_)
 cases hv
 exact k.ok x.2.1 _ rfl
theorem ziX_ {r:Mo Int}(h1:EvF K e1 E L r tyInt):EvF K (mNeg e1) E L (r.bind fun c=>.ok (-c)) tyInt:=by
 intro σ F H Q hL hs q
 refine h1 σ F H _ hL hs (q.bind.imp fun a F1 H1 x k v hv=>?_)
 cases hv
 exact k.ok x.2.1 _ rfl
theorem After.more {k:α→Hp→Hp→Prop}(h:After K r E F H k):After K r E F H fun a F1 H1=>∀ F2 H2,Ext F1 H1 F2 H2→k a F2 H2:=by
 cases r with
 | ok a=>exact fun F1 H1 x F2 H2 y=>h F2 H2 (x.trans y)
 | ex c=>exact h
 | no=>exact h
noncomputable def CsN (C:Cs γ) (n:Nat):Prop:=∀ {c vs H},C.R c vs H→vs.length=n
theorem zfx_:CsN csNil 0:=fun e=>by rw [e]; rfl
theorem zo_:CsN (csLast T) 1:=fun ⟨v,e,_⟩=>by rw [e]; rfl
theorem zl_ {C:Cs γ}{n:Nat}(h:CsN C n):CsN (csCons T C) (n+1):=fun ⟨v,us,e,_,q⟩=>by rw [e,List.length_cons,h q]
theorem ev_tup {ta:TA}{C:Cs γ}{r:Mo γ}{n:Nat}(hl:CsN C n) (h:EvA K ta E L r C) (hn:n≤100:=by decide):EvF K (tTup ta) E L r (tyTup C):=by
 intro σ F H Q hL hs q
 refine h σ F H _ hL hs (q.more.imp fun c F1 H1 x1 k1 vs hvs=>⟨zaK_ (by rw [hl hvs]; lia),fun p hp=>?_⟩)
 have x:=Ext.new (o:=.tup vs) x1.2.1 hp
 exact k1 _ _ x _ ⟨p,vs,rfl,zL_,C.mono x.1 hvs⟩
noncomputable def CsL (C:Cs γ) (T:Ty α) (f:γ→List α):Prop:=∀ {c vs H},C.R c vs H→Prs T H (f c) vs
theorem zcx_:CsL (csLast T) T fun a=>[a]:=fun ⟨v,e,h⟩=>by rw [e]; exact .cons h .nil
theorem zbx_ {C:Cs γ}{f:γ→List α}(h:CsL C T f):CsL (csCons T C) T fun c=>c.1::f c.2:=fun ⟨v,us,e,q,z⟩=>by rw [e]; exact .cons q (h z)
theorem zgm_ {ta:TA}{C:Cs γ}{r:Mo γ}{n:Nat}{f:γ→List α}(hl:CsN C n) (hf:CsL C T f) (h:EvA K ta E L r C) (hn:n≤100:=by decide):EvO K (tLst ta) E L (r.bind fun c=>.ok (f c)) (owL T):=by
 intro σ F H Q hL hs q
 refine h σ F H _ hL hs (q.bind.imp fun c F1 H1 x1 k1 vs hvs=>⟨zaK_ (by rw [hl hvs]; lia),fun p hp=>?_⟩)
 exact zcn_ x1.2.1 hp (hf hvs) (k1.imp fun a F2 H2 x2 k2=>k2.back x1.2.2.1)
theorem zfq_ (T:Ty α):EvO K (tLst tNil) E L (.ok []) (owL T):=by
 intro σ F H Q hL hs q
 exact ⟨Nat.zero_le _,fun p hp=>zcn_ hs hp (T:=T) .nil q⟩
noncomputable def EvP (K:Fgg) (t:TO) (E:XK) (L:List Sl) (r:Mo (Option Int)):Prop :=
 ∀ σ F H (Q:Option Int→Hp→Prop),HoldF L σ F→Same F H→After K r E F H (fun b _ H'=>Q b H')→t σ H Q
theorem ep_no:EvP K tNoPart E L (.ok none):=fun σ F H Q hL hs q=>q.ok hs
theorem zio_ {r:Mo Int}(h:EvF K e E L r tyInt):EvP K (mPart e) E L (r.bind fun i=>.ok (some i)):=by
 intro σ F H Q hL hs q
 refine h σ F H _ hL hs (q.bind.imp fun a F1 H1 x k v hv=>?_)
 cases hv
 exact k.ok x.2.1
noncomputable def cutG (xs:List α) (lo hi:Option Int):List α:=(xs.drop (HT.sIx xs.length 0 lo)).take (HT.sIx xs.length xs.length hi-HT.sIx xs.length 0 lo)
theorem zg3_ {xs:List α}{vs:List V}(q:Prs T H xs vs) (lo hi:Option Int):Prs T H (cutG xs lo hi) (cutV vs lo hi):=by
 unfold cutG cutV
 rw [← q.len]
 exact (q.drop _).take _
variable {tl th:TO}{rl rh:Mo (Option Int)}
theorem zie_ {r:Mo (List Nat)}(h:EvF K e E L r tyStr) (hl:EvP K tl E L rl) (hh:EvP K th E L rh):EvF K (tSl (mSl K) e tl th) E L (r.bind fun l=>rl.bind fun a=>rh.bind fun b=>.lim l.length (.ok (cutG l a b))) tyStr:=by
 intro σ F H Q hL hs q
 refine h σ F H _ hL hs (q.bind.imp fun l F1 H1 x1 k1 v hv=>?_)
 refine hl σ F1 H1 _ (hL.mono x1.1) x1.2.1 (k1.bind.imp fun a F2 H2 x2 k2=>?_)
 refine hh σ F2 H2 _ (hL.mono (x1.1.trans x2.1)) x2.2.1 (k2.bind.imp fun b F3 H3 x3 k3=>?_)
 cases hv
 obtain ⟨z,k3⟩:=k3.lim
 exact ⟨z,k3.ok x3.2.1 _ rfl⟩
theorem zhL_ {r:Mo (List Int)}(h:EvF K e E L r (tySc K)) (hl:EvP K tl E L rl) (hh:EvP K th E L rh):EvO K (tSl (mSl K) e tl th) E L (r.bind fun l=>rl.bind fun a=>rh.bind fun b=>.ok (cutG l a b)) (owL tyInt):=by
 intro σ F H Q hL hs q
 refine h σ F H _ hL hs (q.bind.imp fun l F1 H1 x1 k1 v hv=>?_)
 refine hl σ F1 H1 _ (hL.mono x1.1) x1.2.1 (k1.bind.imp fun a F2 H2 x2 k2=>?_)
 refine hh σ F2 H2 _ (hL.mono (x1.1.trans x2.1)) x2.2.1 (k2.bind.imp fun b F3 H3 x3 k3=>?_)
 obtain ⟨p,rfl,hp⟩:=hv
 have x:=x2.1.trans x3.1
 exact ⟨_,x3.2.1.seq (x.seq hp),fun q hq=>zcn_ x3.2.1 hq (zg3_ zfj_ a b) (k3.imp fun _ _ _ _ z=>z.back ((x1.2.2.1.trans x2.2.2.1).trans x3.2.2.1))⟩
structure EqT (K:Fgg) (T:Ty α) (n:Nat) (q:α→α→Bool):Prop where
 eq:∀ {a b x y H},T.R a x H→T.R b y H→EqD K H n x y (q a b)
theorem zhG_:EqT K tyStr 0 (fun a b=>decide (a=b)):=⟨by
 rintro a b x y H rfl rfl
 have:eqV (tx a) (tx b)=decide (a=b):=by
  unfold eqV
  rw [Bool.eq_iff_iff,decide_eq_true_iff]
  constructor
  ·intro h
   have h:=eq_of_beq h
   injection h with h
   have:=congrArg Array.toList h
   simpa using this
  ·rintro rfl; exact beq_self_eq_true _
 rw [← this]; exact .flat rfl rfl⟩
noncomputable def eqL (q:α→α→Bool):List α→List α→Bool
 | [],[]=>true
 | x::xs,y::ys=>q x y && eqL q xs ys
 | _,_=>false
theorem zfD_ {q:α→α→Bool}:∀ {xs ys:List α},xs.length≠ys.length→eqL q xs ys=false
 | [],[],h=>absurd rfl h
 | [],_::_,_=>rfl
 | _::_,[],_=>rfl
 | x::xs,y::ys,h=>by unfold eqL; rw [zfD_ (by simpa using h),Bool.and_false]
theorem zfp_ {q:α→α→Bool}:∀ {xs ys:List α},xs.length=ys.length→eqL q xs ys=(List.range xs.length).all fun i=>match xs[i]?,ys[i]? with | some x,some y=>q x y | _,_=>true
 | [],[],_=>rfl
 | x::xs,y::ys,h=>by
  unfold eqL
  rw [List.length_cons,List.range_succ_eq_map,List.all_cons,List.all_map,zfp_ (by simpa using h)]
  rfl
theorem eqt_l {n:Nat}{q:α→α→Bool}(h:EqT K T n q):EqT K (tyL T) (n+1) (eqL q):=⟨by
 rintro a b x y H ⟨p,vs,rfl,hp,hr⟩ ⟨p2,us,rfl,hp2,hr2⟩
 by_cases hl:a.length=b.length
 ·rw [zfp_ hl,hr.len]
  refine .lst _ (.of hp) (.of hp2) (by rw [← hr.len,← hr2.len,hl]) fun i x y hx hy=>?_
  rcases hr.get i with ⟨_,z⟩ | ⟨x1,v1,e1,e2,r1⟩
  ·rw [z] at hx; cases hx
  rcases hr2.get i with ⟨_,z⟩ | ⟨x2,v2,e3,e4,r2⟩
  ·rw [z] at hy; cases hy
  rw [e2] at hx; cases hx
  rw [e4] at hy; cases hy
  simp only [e1,e3]
  exact h.eq r1 r2
 ·rw [zfD_ hl]
  exact .lstN (.of hp) (.of hp2) (by rw [← hr.len,← hr2.len]; exact hl)⟩
theorem zjo_ {n:Nat}{q:α→α→Bool}(h:EqT K T n q) (hn:n≤50:=by decide) (hr:∀ {a x H},T.R a x H→∃ p,x=.ref p):Op2 K (mEqK K) E T T (fun a b=>.ok (q a b)) tyBl:=by
 intro a b x y F H Q hs hx hy k
 have hd:=h.eq (T.mono hs hx) (T.mono hs hy)
 obtain ⟨p,rfl⟩:=hr hx
 obtain ⟨p2,rfl⟩:=hr hy
 exact ⟨n,_,hn,hd,k.ok hs _ rfl⟩
theorem ziJ_ {n:Nat}{q:α→α→Bool}(h:EqT K T n q) (hn:n≤50:=by decide) (hr:∀ {a x H},T.R a x H→∃ p,x=.ref p):Op2 K (mNeK K) E T T (fun a b=>.ok (!(q a b))) tyBl:=by
 intro a b x y F H Q hs hx hy k
 have hd:=h.eq (T.mono hs hx) (T.mono hs hy)
 obtain ⟨p,rfl⟩:=hr hx
 obtain ⟨p2,rfl⟩:=hr hy
 exact ⟨n,_,hn,hd,k.ok hs _ rfl⟩
theorem ref_l {a:List α}{x:V}{H:Hp}(h:(tyL T).R a x H):∃ p,x=.ref p:=by obtain ⟨p,_,e,_⟩:=h; exact ⟨p,e⟩
theorem ziP_ {n:Nat}{q:α→α→Bool}(h:EqT K (tyL T) n (eqL q)) (hn:n≤50:=by decide):Op2 K (mNeK K) E (tyL T) (tyL T) (fun a b=>.ok (!(eqL q a b))) tyBl:=ziJ_ h hn ref_l
theorem zji_:Op2 K (mEqK K) E tyInt tyInt (fun a b=>.ok (decide (a=b))) tyBl:=by
 rintro a b x y F H Q hs rfl rfl k
 exact k.ok hs _ rfl
theorem ziR_:Op2 K (mNeK K) E tyInt tyInt (fun a b=>.ok (!decide (a=b))) tyBl:=by
 rintro a b x y F H Q hs rfl rfl k
 exact k.ok hs _ rfl
theorem zdY_:Op2 K (mEqK K) E tyStr tyStr (fun a b=>.ok (decide (a=b))) tyBl:=by
 rintro a b x y F H Q hs rfl rfl k
 exact k.ok hs _ rfl
theorem zg4_:Op2 K (mNeK K) E tyStr tyStr (fun a b=>.ok (!decide (a=b))) tyBl:=by
 rintro a b x y F H Q hs rfl rfl k
 exact k.ok hs _ rfl
theorem zez_:Op2 K mIs E (tyOpt T) tyNon (fun a _=>.ok a.isNone) tyBl:=by
 rintro a b x y F H Q hs hx rfl k
 have:decide (x=.non)=a.isNone:=by
  cases a with
  | none=>cases hx; rfl
  | some a=>exact decide_eq_false hx.2
 show (match mIsB x .non with | some b=>Q (.bl b) H | none=>False)
 have e:mIsB x .non=some (decide (x=.non)):=rfl
 rw [e,this]
 exact k.ok hs _ rfl
theorem zfT_:Op2 K mIsNot E (tyOpt T) tyNon (fun a _=>.ok a.isSome) tyBl:=by
 rintro a b x y F H Q hs hx rfl k
 have:(!decide (x=.non))=a.isSome:=by
  cases a with
  | none=>cases hx; rfl
  | some a=>rw [decide_eq_false hx.2]; rfl
 show (match mIsB x .non with | some b=>Q (.bl (!b)) H | none=>False)
 have e:mIsB x .non=some (decide (x=.non)):=rfl
 rw [e]
 show Q (.bl (!decide (x=.non))) H
 rw [this]
 exact k.ok hs _ rfl
structure Flt (T:Ty α) (q:α→α→Bool):Prop where
 flat:∀ {a x H},T.R a x H→flatV x=true
 eq:∀ {a b x y H},T.R a x H→T.R b y H→eqV x y=q a b
theorem zfA_:Flt tyInt (fun a b=>decide (a=b)):=⟨fun h=>by cases h; rfl,fun h h'=>by cases h; cases h'; unfold eqV; exact rfl⟩
theorem zhr_:Flt tyStr (fun a b=>decide (a=b)):=⟨fun h=>by cases h; rfl,fun {a b x y H} h h'=>by
 cases h; cases h'
 unfold eqV
 rw [Bool.eq_iff_iff,decide_eq_true_iff]
 constructor
 ·intro h
  have h:=eq_of_beq h
  injection h with h
  simpa using congrArg Array.toList h
 ·rintro rfl; exact beq_self_eq_true _⟩
theorem zih_ {q:α→α→Bool}(f:Flt T q) {H:Hp}{a:α}{x:V}(ha:T.R a x H) {xs:List α}{vs:List V}(r:Prs T H xs vs):vs.all flatV=true∧inV x vs=xs.any fun y=>q y a:=by
 induction r with
 | nil=>exact ⟨rfl,rfl⟩
 | cons r t ih =>
  refine ⟨by rw [List.all_cons,f.flat r,ih.1]; rfl,?_⟩
  unfold inV at ih ⊢
  rw [List.any_cons,List.any_cons,f.eq r ha,ih.2]
theorem zfh_ {q:α→α→Bool}(f:Flt T q):Op2 K (mIn K true) E T (tyL T) (fun a b=>.ok (!(b.any fun y=>q y a))) tyBl:=by
 rintro a b x y F H Q hs hx ⟨p,vs,rfl,hp,hr⟩ k
 obtain ⟨h1,h2⟩:=zih_ f hx hr
 refine ⟨vs,.inl (.of (hs _ _ hp)),f.flat hx,h1,?_⟩
 rw [h2]
 exact k.ok hs _ rfl
noncomputable def TyN (K:Fgg) (T:Ty α) (n:String):Prop:=∀ {a x H},T.R a x H→tyS K H x n
theorem zg2_:TyN K tyInt "int" := fun h=>by cases h; rfl
theorem ziN_:TyN K tyStr "str" := fun h=>by cases h; rfl
theorem tn_l:TyN K (tyL T) "list" := fun ⟨p,vs,e,h,_⟩=>by subst e; exact .inl ⟨rfl,vs,h⟩
theorem ziQ_ {C:Cs γ}:TyN K (tyTup C) "tuple" := fun ⟨p,vs,e,h,_⟩=>by subst e; exact .inr ⟨rfl,vs,h⟩
theorem zeh_ {x:V}{n c:String}{bb:Bool}{Q:VK}(h:tyS K H x n) (hb:isaB n c=some bb) (q:Q (.bl bb) H):mIsa K [x,.ty c] H Q:=by
 cases x with
 | non=>cases (show n=_ from h); show (match isaB "NoneType" c with | some b=>Q (.bl b) H | none=>False); rw [hb]; exact q
 | bl _=>cases (show n=_ from h); show (match isaB "bool" c with | some b=>Q (.bl b) H | none=>False); rw [hb]; exact q
 | int _=>cases (show n=_ from h); show (match isaB "int" c with | some b=>Q (.bl b) H | none=>False); rw [hb]; exact q
 | str _=>cases (show n=_ from h); show (match isaB "str" c with | some b=>Q (.bl b) H | none=>False); rw [hb]; exact q
 | ref p=>exact ⟨n,h,by rw [hb]; exact q⟩
 | _=>exact h.elim
theorem ze2_ {n c:String}{bb:Bool}(hn:TyN K T n) (h:EvF K e E L r T) (hb:isaB n c=some bb:=by decide):EvF K (tCB (mIsa K) (tCons e (tCons (tC (.ty c)) tNil))) E L (r.bind fun _=>.ok bb) tyBl:=by
 intro σ F H Q hL hs q
 refine h σ F H _ hL hs (q.bind.imp fun l F1 H1 x1 k1 v hv=>?_)
 exact zeh_ (hn (T.mono x1.2.1 hv)) hb (k1.ok x1.2.1 _ rfl)
noncomputable def Me (K:Fgg) (m:V→List V→Hp→VK→Prop) (E:XK) (C:Cs γ) (g:List Nat→γ→Mo α) (T:Ty α):Prop :=
 ∀ l c vs F H (Q:VK),Same F H→C.R c vs F→After K (g l c) E F H (fun c F' H'=>∀ v,T.R c v F'→Q v H')→m (tx l) vs H Q
theorem ev_me {m:V→List V→Hp→VK→Prop}{C:Cs γ}{g:List Nat→γ→Mo α}{ta:TA}{r0:Mo (List Nat)}{r:Mo γ}(hb:Me K m E C g T) (h0:EvF K e E L r0 tyStr) (h:EvA K ta E L r C):EvF K (tBM K "str" m e ta) E L (r0.bind fun l=>r.bind fun c=>g l c) T:=by
 intro σ F H Q hL hs q
 refine h0 σ F H _ hL hs (q.bind.imp fun l F1 H1 x1 k1 v hv=>?_)
 cases hv
 refine ⟨rfl,h σ F1 H1 _ (hL.mono x1.1) x1.2.1 (k1.bind.imp fun c F2 H2 x2 k2 vs hvs=>hb l c vs F2 H2 Q x2.2.1 hvs k2)⟩
theorem zhT_:Me K mFind E (csLast tyStr) (fun l c=>.ok (findS l c)) tyInt:=by
 rintro l c vs F H Q hs ⟨v,rfl,rfl⟩ k
 exact k.ok hs _ rfl
end
end L2
namespace L2
open PySem PySem.Spec PyProof.Rows
section
variable {K:Fgg}{E:XK}{α β γ ρ S S' B:Type}{F H:Hp}{L:List Sl}{e e1 e2:TE}{T:Ty α}{r:Mo α}
noncomputable def setL (L:List Sl) (ss:List (Nat×Sl)):List Sl:=ss.foldl (fun L q=>L.set q.1 q.2) L
noncomputable def setS (σ:St) (ss:List (Nat×Option V)):St:=ss.foldl (fun L q=>L.set q.1 q.2) σ
inductive Plain (F:Hp):List (Nat×Sl)→List (Nat×Option V)→Prop
 | nil:Plain F [] []
 | cons {α:Type}{T:Ty α}{a:α}{i:Nat}{v:V}{ss vs} (h:T.R a v F) (t:Plain F ss vs):Plain F ((i,.fz T a)::ss) ((i,some v)::vs)
noncomputable def TgR (K:Fgg) (g:TG) (T:Ty α) (ss:α→List (Nat×Sl)):Prop :=
 ∀ a v σ F H (Q:St→Hp→Prop),Same F H→T.R a v F→(∀ vs,Plain F (ss a) vs→Q (setS σ vs) H)→g v σ H Q
theorem zaR_ (i:Nat):TgR K (gName i) T fun a=>[(i,.fz T a)]:=by
 intro a v σ F H Q hs hv q
 exact q [(i,some v)] (.cons hv .nil)
noncomputable def TgC (K:Fgg) (g:TGs) (C:Cs γ) (ss:γ→List (Nat×Sl)):Prop :=
 ∀ a vs σ F H (Q:St→Hp→Prop),Same F H→C.R a vs F→(∀ us,Plain F (ss a) us→Q (setS σ us) H)→g vs σ H Q
theorem zhW_ {g:TG}{ss:α→List (Nat×Sl)}(h:TgR K g T ss):TgC K (gConsM g gNilM) (csLast T) ss:=by
 rintro a vs σ F H Q hs ⟨v,rfl,hv⟩ q
 exact h a v σ F H _ hs hv fun us hu=>q us hu
theorem zhg_ (i:Nat) {g:TGs}{C:Cs γ}{ss:γ→List (Nat×Sl)}(h:TgC K g C ss):TgC K (gConsM (gName i) g) (csCons T C) fun c=>(i,.fz T c.1)::ss c.2:=by
 rintro a vs σ F H Q hs ⟨v,us,rfl,hv,hc⟩ q
 exact h a.2 us _ F H _ hs hc fun ws hw=>q ((i,some v)::ws) (.cons hv hw)
theorem zjg_ {n:Nat}{g:TGs}{C:Cs γ}{ss:γ→List (Nat×Sl)}(hn:CsN C n) (h:TgC K g C ss):TgR K (gTupM K n g) (tyTup C) ss:=by
 rintro a v σ F H Q hs ⟨p,us,rfl,hp,hc⟩ q
 exact ⟨us,.of (hs _ _ hp),hn hc,h a us σ F H Q hs hc q⟩
structure Yl (K:Fgg) (J:It) (xs:List α) (T:Ty α) (F1:Hp):Prop where
 go:∀ i H x,Same F1 H→xs[i]?=some x→J.go i H∧∀ v H',J.yld i H v H'→∀ F,Same F1 F→Same F H→∃ F',Ext F H F' H'∧T.R x v F'
 stop:∀ H,Same F1 H→J.stop xs.length H
noncomputable def EvI (K:Fgg) (wi:TI) (E:XK) (L:List Sl) (r:Mo (List α)) (T:Ty α):Prop :=
 ∀ σ F H (R:It→Hp→Prop),HoldF L σ F→Same F H→After K r E F H (fun xs F' H'=>∀ J,Yl K J xs T F'→R J H')→wi σ H R
theorem ei_l {r:Mo (List α)}(h:EvF K e E L r (tyL T)):EvI K (iAny K e) E L r T:=by
 intro σ F H R hL hs q
 refine h σ F H _ hL hs (q.imp fun l F1 H1 x1 k1 v hv=>?_)
 obtain ⟨p,vs,rfl,hp,hr⟩:=hv
 refine .inl ⟨⟨vs,.of (x1.2.1 _ _ hp)⟩,k1 _ ⟨fun i H x hH hx=>?_,fun H hH=>⟨vs,.of (hH _ _ hp),by rw [hr.len]; exact Nat.le_refl _⟩⟩⟩
 rcases hr.get i with ⟨a,_⟩ | ⟨y,u,a,b,c⟩
 ·rw [a] at hx; cases hx
 ·rw [a] at hx; cases hx
  refine ⟨⟨vs,u,.of (hH _ _ hp),b⟩,?_⟩
  rintro v H' ⟨rfl,z⟩ F hF hF'
  have e:=z vs (.of (hH _ _ hp))
  rw [b] at e; cases e
  exact ⟨F,.refl hF',T.mono hF c⟩
noncomputable def rngI (lo:Int) (n:Nat):List Int:=(List.range n).map fun (i:Nat)=>lo+i
theorem ziM_ {lo:Int}{n:Nat}{F1:Hp}:Yl K (Itr lo n) (rngI lo n) tyInt F1:=by
 refine ⟨fun i H x hH hx=>?_,fun H hH=>?_⟩
 ·unfold rngI at hx
  rw [List.getElem?_map] at hx
  cases e:(List.range n)[i]? with
  | none=>rw [e] at hx; cases hx
  | some c =>
   rw [e] at hx; cases hx
   obtain ⟨hi,e⟩:=List.getElem?_eq_some_iff.mp e
   rw [List.getElem_range] at e; subst e
   rw [List.length_range] at hi
   refine ⟨hi,?_⟩
   rintro v H' ⟨rfl,rfl⟩ F _ hF
   exact ⟨F,.refl hF,rfl⟩
 ·show n≤_
  unfold rngI; rw [List.length_map,List.length_range]; exact Nat.le_refl _
theorem zhi_ {r:Mo Int}{ta:TA}(h:EvA K ta E L r (csLast tyInt)):EvI K (mRng1 ta) E L (r.bind fun j=>.grd (-(2 ^ 62)≤j∧j<2 ^ 62) (.ok (rngI 0 j.toNat))) tyInt:=by
 intro σ F H R hL hs q
 refine h σ F H _ hL hs (q.bind.imp fun l F1 H1 x1 k1 v hv=>?_)
 obtain ⟨u,rfl,rfl⟩:=hv
 obtain ⟨z,k1⟩:=k1.grd
 exact ⟨z.1,z.2,k1.ok x1.2.1 _ ziM_⟩
end
end L2
namespace L2
open PySem PySem.Spec PyProof.Rows
inductive Out (ρ B S:Type) where
 | nx (s:S) | rt (r:ρ) | bk (b:B) | ct (b:B)
noncomputable def Okk (F0 H0 F h H:Hp):Prop:=Ext F0 H0 F H∧Dj F h∧Same h H∧(∀ p,h p≠none→H0 p=none)∧∀ p xs,h p≠some (.tup xs)
section
variable {K:Fgg}{E:XK}{α β γ ρ S S' B B':Type}{F0 H0 F h H:Hp}{L:List Sl}{e e1 e2:TE}{T:Ty α}{r:Mo α}{O:Own ρ}
noncomputable def Fin (K:Fgg) (r:Mo (Out ρ B S)) (E:XK) (LS:S→List Sl) (LB:B→List Sl) (O:Own ρ) (F0 H0:Hp) (D:Ends):Prop:=match r with
 | .ok (.nx s)=>∀ σ F h H,Hold (LS s) σ F h→Okk F0 H0 F h H→D.nx σ H
 | .ok (.bk b)=>∀ σ F h H,Hold (LB b) σ F h→Okk F0 H0 F h H→D.bk σ H
 | .ok (.ct b)=>∀ σ F h H,Hold (LB b) σ F h→Okk F0 H0 F h H→D.ct σ H
 | .ok (.rt a)=>∀ v F h H,Okk F0 H0 F h H→O.O a v F h→D.rt v H
 | .ex c=>∀ F h H,Okk F0 H0 F h H→E (.ref (gA K c)) none H
 | .no=>False
noncomputable def EvS (K:Fgg) (t:TS) (E:XK) (L:List Sl) (r:Mo (Out ρ B S)) (LS:S→List Sl) (LB:B→List Sl) (O:Own ρ):Prop :=
 ∀ F0 H0 σ F h H (D:Ends),Hold L σ F h→Okk F0 H0 F h H→Fin K r E LS LB O F0 H0 D→t D σ H
variable {t u:TS}{LS:S→List Sl}{LS':S'→List Sl}{LB:B→List Sl}
noncomputable def thenO (r:Mo (Out ρ B S)) (k:S→Mo (Out ρ B S')):Mo (Out ρ B S'):=r.bind fun o=>match o with | .nx s=>k s | .rt a=>.ok (.rt a) | .bk b=>.ok (.bk b) | .ct b=>.ok (.ct b)
theorem za4_ {r:Mo (Out ρ B S)}{k:S→Mo (Out ρ B S')}(h1:EvS K t E L r LS LB O) (h2:∀ s,EvS K u E (LS s) (k s) LS' LB O):EvS K (tSeq t u) E L (thenO r k) LS' LB O:=by
 intro F0 H0 σ F h H D hL ok fin
 refine h1 F0 H0 σ F h H { D with nx:=u D } hL ok ?_
 cases r with
 | no=>exact fin
 | ex c=>exact fin
 | ok o =>
  cases o with
  | nx s=>exact fun σ F h H hL ok=>h2 s F0 H0 σ F h H D hL ok fin
  | rt a=>exact fin
  | bk b=>exact fin
  | ct b=>exact fin
theorem Okk.thaw (ok:Okk F0 H0 F h H):Same (un F h) H:=fun p o e=>by
 unfold un at e
 cases z:F p with
 | some w=>rw [z] at e; cases e; exact ok.1.2.1 _ _ z
 | none=>rw [z] at e; exact ok.2.2.1 _ _ e
noncomputable def less (G h:Hp):Hp:=fun p=>match h p with | none=>G p | some _=>none
theorem zV_ {G h:Hp}{p:Addr}(e:h p=none):less G h p=G p:=by unfold less; rw [e]
theorem Okk.back (ok:Okk F0 H0 F h H) {G' H':Hp}(x:Ext (un F h) H G' H'):Okk F0 H0 (less G' h) h H'∧Same F (less G' h)∧Tups G' (less G' h):=by
 obtain ⟨o1,o2,o3,o4,o5⟩:=ok
 have hs:Same F (less G' h):=fun p o e=>by
  have hp:h p=none:=by
   rcases o2 p with z | z
   ·rw [z] at e; cases e
   ·exact z
  rw [zV_ hp]; exact x.1 _ _ (zax_ _ _ e)
 refine ⟨⟨⟨o1.1.trans hs,fun p o e=>?_,o1.2.2.1.trans x.2.2.1,fun p a b=>?_⟩,fun p=>?_,fun p o e=>?_,o4,o5⟩,hs,fun p xs e=>?_⟩
 ·unfold less at e
  split at e
  ·exact x.2.1 _ _ e
  ·cases e
 ·unfold less at b
  split at b
  ·rename_i z
   cases y:un F h p with
   | none=>exact o1.2.2.1.free (x.2.2.2 p y b)
   | some o =>
    unfold un at y
    cases w:F p with
    | some _=>exact o1.2.2.2 p a (by rw [w]; exact Option.some_ne_none _)
    | none=>rw [w,z] at y; cases y
  ·exact absurd rfl b
 ·unfold less
  cases z:h p with
  | none=>exact .inr rfl
  | some o=>exact .inl rfl
 ·exact x.2.1 _ _ (x.1 _ _ (zfa_ o2 _ _ e))
 ·unfold less
  cases z:h p with
  | none=>exact e
  | some o =>
   have:=x.1 _ _ (zfa_ o2 _ _ z)
   rw [e] at this; cases this
   exact absurd z (o5 p xs)
theorem z8_ {r:Mo α}{k:α→Mo (Out ρ B S)}{G:Hp}{D:Ends}{kk:α→Hp→Hp→Prop}(ok:Okk F0 H0 F h H) (G1:Hp) (hG:G1=un F h∨G1=F) (fin:Fin K (r.bind k) E LS LB O F0 H0 D)
  (hk:∀ a F' H',r=.ok a→Ext G1 H F' H'→kk a F' H'):After K r E G1 H kk:=by
 cases r with
 | ok a=>exact fun F' H' x=>hk a F' H' rfl x
 | no=>exact fin
 | ex c =>
  intro F' H' x
  rcases hG with rfl | rfl
  ·exact fin _ _ _ (ok.back x).1
  ·refine fin F' h H' ⟨ok.1.trans x,fun p=>?_,ok.2.2.1.trans x.2.2.1,ok.2.2.2.1,ok.2.2.2.2⟩
   cases z:h p with
   | none=>exact .inr rfl
   | some o =>
    left
    rcases ok.2.1 p with y | y
    ·cases w:F' p with
     | none=>rfl
     | some o'=>have:=x.2.2.2 p y (by rw [w]; exact Option.some_ne_none _); rw [ok.2.2.1 _ _ z] at this; cases this
    ·rw [y] at z; cases z
theorem Okk.cold (ok:Okk F0 H0 F h H) {F' H':Hp}(x:Ext F H F' H'):Okk F0 H0 F' h H':=by
 refine ⟨ok.1.trans x,fun p=>?_,ok.2.2.1.trans x.2.2.1,ok.2.2.2.1,ok.2.2.2.2⟩
 cases z:h p with
 | none=>exact .inr rfl
 | some o =>
  left
  rcases ok.2.1 p with y | y
  ·cases w:F' p with
   | none=>rfl
   | some o'=>have:=x.2.2.2 p y (by rw [w]; exact Option.some_ne_none _); rw [ok.2.2.1 _ _ z] at this; cases this
  ·rw [y] at z; cases z
theorem zba_ {i:Nat}{s:Sl}{σ:St}{a:α}{v:V}(hi:L[i]?=some s) (hL:Hold L σ F h) (hv:T.R a v F):Hold (L.set i (.fz T a)) (σ.set i (some v)) F h:=by
 obtain ⟨o,h1,h2,_,j,_,f⟩:=hL.at i hi
 exact f (.fz T a) (some v) h1 h j ⟨v,rfl,hv⟩
theorem zeH_ {i:Nat}{s:Sl}{σ:St}{a:α}{v:V}{O1:Own α}{hn:Hp}(ok:Okk F0 H0 F h H) (hi:L[i]?=some s) (hL:Hold L σ F h) (fresh:∀ p,hn p≠none→H0 p=none) (dj:Dj F hn) (dh:Dj hn h) (hs:Same hn H) (hv:O1.O a v F hn) :
  ∃ h',Hold (L.set i (.ow O1 a)) (σ.set i (some v)) F h'∧Okk F0 H0 F h' H:=by
 obtain ⟨o,h1,h2,_,j,_,f⟩:=hL.at i hi
 have d2:Dj hn h2:=fun p=>by
  rcases dh p with z | z
  ·exact .inl z
  ·exact .inr (j.r.free z)
 refine ⟨un hn h2,f (.ow O1 a) (some v) hn _ (zfF_ d2) ⟨v,rfl,hv⟩,ok.1,fun p=>?_,fun p o e=>?_,fun p e=>?_,fun p xs e=>?_⟩
 ·unfold un
  cases z:hn p with
  | some w =>
   rcases dj p with y | y
   ·exact .inl y
   ·rw [y] at z; cases z
  | none =>
   rcases ok.2.1 p with y | y
   ·exact .inl y
   ·exact .inr (j.r.free y)
 ·unfold un at e
  cases z:hn p with
  | some w=>rw [z] at e; cases e; exact hs _ _ z
  | none=>rw [z] at e; exact ok.2.2.1 _ _ (j.r _ _ e)
 ·unfold un at e
  cases z:hn p with
  | some w=>exact fresh p (by rw [z]; exact Option.some_ne_none _)
  | none =>
   rw [z] at e
   cases y:h2 p with
   | none=>exact absurd y e
   | some w=>exact ok.2.2.2.1 p (by rw [j.r _ _ y]; exact Option.some_ne_none _)
 ·unfold un at e
  cases z:hn p with
  | some w=>rw [z] at e; cases e; exact O1.notup hv p xs z
  | none=>rw [z] at e; exact ok.2.2.2.2 p xs (j.r _ _ e)
theorem zc6_ {i:Nat}{s:Sl}{k:α→Mo (Out ρ B S)}(hi:L[i]?=some s) (hT:Imm T) (he:EvF K e E L r T) (hk:∀ a,EvS K u E (L.set i (.fz T a)) (k a) LS LB O):EvS K (tSeq (tAsg e (gName i)) u) E L (r.bind k) LS LB O:=by
 intro F0 H0 σ F h H D hL ok fin
 refine he σ (un F h) H _ (hL.froz ok.2.1) ok.thaw (z8_ (G:=F) ok _ (.inl rfl) fin fun a F' H' hr x v hv=>?_)
 obtain ⟨o,hs,ht⟩:=ok.back x
 rw [hr] at fin
 exact hk a F0 H0 _ _ h H' D (zba_ hi (hL.mono hs) (hT ht hv)) o fin
theorem ziy_ {i:Nat}{s:Sl}{k:α→Mo (Out ρ B S)}(hi:L[i]?=some s) (he:EvF K e E (L.map Sl.cold) r T) (hk:∀ a,EvS K u E (L.set i (.fz T a)) (k a) LS LB O):EvS K (tSeq (tAsg e (gName i)) u) E L (r.bind k) LS LB O:=by
 intro F0 H0 σ F h H D hL ok fin
 refine he σ F H _ hL.coldF ok.1.2.1 (z8_ (G:=F) ok _ (.inr rfl) fin fun a F' H' hr x v hv=>?_)
 rw [hr] at fin
 exact hk a F0 H0 _ _ h H' D (zba_ hi (hL.mono x.1) hv) (ok.cold x) fin
theorem ziD_ {hn h:Hp}(hh:Same h H) (fresh:∀ p,hn p≠none→H p=none):Dj hn h:=fun p=>by
 cases z:hn p with
 | none=>exact .inl rfl
 | some w =>
  have:=fresh p (by rw [z]; exact Option.some_ne_none _)
  exact .inr (hh.free this)
theorem zbZ_ {i:Nat}{s:Sl}{O1:Own α}{k:α→Mo (Out ρ B S)}(hi:L[i]?=some s) (hO:ImmO O1) (he:EvO K e E L r O1) (hk:∀ a,EvS K u E (L.set i (.ow O1 a)) (k a) LS LB O):EvS K (tSeq (tAsg e (gName i)) u) E L (r.bind k) LS LB O:=by
 intro F0 H0 σ F h H D hL ok fin
 refine he σ (un F h) H _ (hL.froz ok.2.1) ok.thaw (z8_ (G:=F) ok _ (.inl rfl) fin fun a F' H' hr x v hn fresh dj hsn hv=>?_)
 obtain ⟨o,hs,ht⟩:=ok.back x
 rw [hr] at fin
 have dj':Dj (less F' h) hn:=fun p=>by
  unfold less
  cases z:h p with
  | none=>exact dj p
  | some w=>exact .inl rfl
 obtain ⟨h',a1,a2⟩:=zeH_ o hi (hL.mono hs) (fun p z=>ok.1.2.2.1.free (fresh p z)) dj' (ziD_ ok.2.2.1 fresh) hsn (hO ht hv)
 exact hk a F0 H0 _ _ h' H' D a1 a2 fin
theorem zay_ {α:Type}{l:List α}{i:Nat}{o:α}(h:l[i]?=some o):l.set i o=l:=by
 obtain ⟨hi,e⟩:=List.getElem?_eq_some_iff.mp h
 rw [← e]; exact List.set_getElem_self hi
theorem zip_ {i:Nat}{O1:Own α}{a:α}{r:Mo (Out ρ B S)}(hi:L[i]?=some (.ow O1 a)) (hk:EvS K u E (L.set i (.fz O1.fr a)) r LS LB O):EvS K u E L r LS LB O:=by
 intro F0 H0 σ F h H D hL ok fin
 obtain ⟨o,h1,h2,e1,j,⟨v,e2,hv⟩,f⟩:=hL.at i hi
 obtain ⟨o1,o2,o3,o4,o5⟩:=ok
 have dj1:Dj F h1:=fun p=>by
  rcases o2 p with z | z
  ·exact .inl z
  ·exact .inr (j.l.free z)
 have dj2:Dj F h2:=fun p=>by
  rcases o2 p with z | z
  ·exact .inl z
  ·exact .inr (j.r.free z)
 have g1:Hold (L.set i (.dead)) σ F h2:=by
  have:=f .dead o (fun _=>none) h2 (fun p=>.inl ⟨rfl,rfl⟩) trivial
  rwa [zay_ e1] at this
 have g2:Hold (L.set i (.fz O1.fr a)) σ (un F h1) h2:=by
  have g3:=g1.mono (zax_ (h:=h1))
  have hi':(L.set i Sl.dead)[i]?=some .dead:=by
   rw [List.getElem?_set_self]
   exact (List.getElem?_eq_some_iff.mp hi).1
  have:=zba_ (T:=O1.fr) hi' g3 (O1.frz dj1 hv)
  rw [List.set_set] at this
  subst e2
  rwa [zay_ e1] at this
 refine hk F0 H0 σ _ h2 H D g2 ⟨⟨o1.1.trans zax_,fun p o e=>?_,o1.2.2.1,fun p a b=>?_⟩,fun p=>?_,j.r.trans o3,fun p z=>?_,fun p xs e=>o5 p xs (j.r _ _ e)⟩ fin
 ·unfold un at e
  cases z:F p with
  | some w=>rw [z] at e; cases e; exact o1.2.1 _ _ z
  | none=>rw [z] at e; exact o3 _ _ (j.l _ _ e)
 ·unfold un at b
  cases z:F p with
  | some w=>exact o1.2.2.2 p a (by rw [z]; exact Option.some_ne_none _)
  | none =>
   rw [z] at b
   cases y:h1 p with
   | none=>exact absurd y b
   | some w=>exact o4 p (by rw [j.l _ _ y]; exact Option.some_ne_none _)
 ·unfold un
  cases z:F p with
  | some w =>
   rcases dj2 p with y | y
   ·rw [y] at z; cases z
   ·exact .inr y
  | none=>exact j.dj p
 ·cases y:h2 p with
  | none=>exact absurd y z
  | some w=>exact o4 p (by rw [j.r _ _ y]; exact Option.some_ne_none _)
theorem zbC_ {r:Mo ρ}(hO:ImmO O) (he:EvO K e E L r O):EvS K (tRet e) E L (r.bind fun a=>.ok (.rt a)) LS LB O:=by
 intro F0 H0 σ F h H D hL ok fin
 refine he σ (un F h) H _ (hL.froz ok.2.1) ok.thaw (z8_ (G:=F) ok _ (.inl rfl) fin fun a F' H' hr x v hn fresh dj hsn hv=>?_)
 obtain ⟨o,hs,ht⟩:=ok.back x
 rw [hr] at fin
 refine fin v _ hn H' ⟨o.1,fun p=>?_,hsn,fun p z=>ok.1.2.2.1.free (fresh p z),O.notup hv⟩ (hO ht hv)
 unfold less
 cases z:h p with
 | none=>exact dj p
 | some w=>exact .inl rfl
theorem zhv_ {r:Mo ρ}(he:EvO K e E (L.map Sl.cold) r O):EvS K (tRet e) E L (r.bind fun a=>.ok (.rt a)) LS LB O:=by
 intro F0 H0 σ F h H D hL ok fin
 refine he σ F H _ hL.coldF ok.1.2.1 (z8_ (G:=F) ok _ (.inr rfl) fin fun a F' H' hr x v hn fresh dj hsn hv=>?_)
 rw [hr] at fin
 exact fin v _ hn H' ⟨ok.1.trans x,dj,hsn,fun p z=>ok.1.2.2.1.free (fresh p z),O.notup hv⟩ hv
theorem s_if {c:TT}{b:Mo Bool}{r1 r2:Mo (Out ρ B S)}(hc:EvT K c E L b) (h1:EvS K t E L r1 LS LB O) (h2:EvS K u E L r2 LS LB O):EvS K (mIfS c t u) E L (b.bind fun c=>if c then r1 else r2) LS LB O:=by
 intro F0 H0 σ F h H D hL ok fin
 refine hc σ (un F h) H _ (hL.froz ok.2.1) ok.thaw (z8_ (G:=F) ok _ (.inl rfl) fin fun a F' H' hr x=>?_)
 obtain ⟨o,hs,ht⟩:=ok.back x
 rw [hr] at fin
 have fin':Fin K (if a then r1 else r2) E LS LB O F0 H0 D:=fin
 refine ⟨fun z=>?_,fun z=>?_⟩
 ·rw [if_pos z] at fin'; exact h1 F0 H0 σ _ h H' D (hL.mono hs) o fin'
 ·rw [if_neg (by rw [z]; decide)] at fin'; exact h2 F0 H0 σ _ h H' D (hL.mono hs) o fin'
inductive Sub:List Sl→List Sl→Prop
 | nil:Sub [] []
 | same {s:Sl}{L L':List Sl}(h:Sub L L'):Sub (s::L) (s::L')
 | dead {s:Sl}{L L':List Sl}(h:Sub L L'):Sub (s::L) (.dead::L')
theorem Sub.hold {L L':List Sl}(w:Sub L L'):∀ {σ:St}{F h:Hp},Hold L σ F h→Hold L' σ F h:=by
 induction w with
 | nil=>exact fun h=>h
 | same _ ih =>
  intro σ F h q
  cases σ with
  | nil=>exact q.elim
  | cons o σ=>obtain ⟨h1,h2,j,p,r⟩:=q; exact ⟨h1,h2,j,p,ih r⟩
 | dead _ ih =>
  intro σ F h q
  cases σ with
  | nil=>exact q.elim
  | cons o σ=>obtain ⟨h1,h2,j,p,r⟩:=q; exact ⟨h1,h2,j,trivial,ih r⟩
theorem zm_ {s:S}(w:Sub L (LS s)):EvS K tNext E L (.ok (.nx s)) LS LB O:=fun F0 H0 σ F h H D hL ok fin=>fin σ F h H (w.hold hL) ok
theorem zdG_ {r:Mo (Out ρ B S)}(h:EvS K (tSeq t tNext) E L r LS LB O):EvS K t E L r LS LB O:=h
noncomputable def forO (step:S→α→Mo (Out ρ S S)):List α→S→Mo (Out ρ B S)
 | [],s=>.ok (.nx s)
 | x::xs,s=>(step s x).bind fun o=>match o with | .nx s'=>forO step xs s' | .ct s'=>forO step xs s' | .bk s'=>.ok (.nx s') | .rt a=>.ok (.rt a)
theorem zcj_ {ss:List (Nat×Sl)}{vs:List (Nat×Option V)}(p:Plain F ss vs):∀ {L:List Sl}{σ:St},Hold L σ F h→Hold (setL L ss) (setS σ vs) F h:=by
 induction p with
 | nil=>exact fun h=>h
 | cons hv t ih =>
  rename_i T a i v ss vs
  intro L σ q
  refine ih (L:=L.set i (.fz T a)) (σ:=σ.set i (some v)) ?_
  by_cases hi:i<L.length
  ·exact zba_ (List.getElem?_eq_getElem hi) q hv
  ·rw [List.set_eq_of_length_le (by lia),List.set_eq_of_length_le (by have:=q.len; lia)]; exact q
theorem Okk.rebase {F1 H1:Hp}(x:Ext F0 H0 F1 H1) (ok:Okk F0 H0 F h H) (s:Same F1 F):Okk F1 H0 F h H:=by
 obtain ⟨o1,o2,o3,o4,o5⟩:=ok
 refine ⟨⟨s,o1.2.1,o1.2.2.1,fun p a b=>o1.2.2.2 p (x.1.free a) b⟩,o2,o3,o4,o5⟩
theorem Okk.unbase {F1 H1:Hp}(x:Ext F0 H0 F1 H1) (ok:Okk F1 H0 F h H):Okk F0 H0 F h H:=by
 obtain ⟨o1,o2,o3,o4,o5⟩:=ok
 refine ⟨⟨x.1.trans o1.1,o1.2.1,o1.2.2.1,fun p a b=>?_⟩,o2,o3,o4,o5⟩
 cases z:F1 p with
 | none=>exact o1.2.2.2 p z b
 | some w=>exact x.2.2.2 p a (by rw [z]; exact Option.some_ne_none _)
theorem zfo_ {wi:TI}{g:TG}{tb:TS}{s0:S}{r:Mo (List α)}{ss:α→List (Nat×Sl)}{step:S→α→Mo (Out ρ S S)}(hi:EvI K wi E ((LS s0).map Sl.cold) r T) (hg:TgR K g T ss)
  (hb:∀ s a,EvS K tb E (setL (LS s) (ss a)) (step s a) LS LS O):EvS K (tFor wi g tb) E (LS s0) (r.bind fun xs=>forO step xs s0) LS LB O:=by
 intro F0 H0 σ F h H D hL ok fin
 refine hi σ F H _ hL.coldF ok.1.2.1 (z8_ (G:=F) ok _ (.inr rfl) fin fun xs F1 H1 hr x1 J Y=>?_)
 rw [hr] at fin
 have xx:=ok.1.trans x1
 refine ⟨fun i m σ H=>m=xs.length-i∧i≤xs.length∧∃ s F h,Hold (LS s) σ F h∧Okk F1 H0 F h H∧Fin K (forO (B:=B) step (xs.drop i) s) E LS LB O F0 H0 D,
  ⟨_,rfl,Nat.zero_le _,s0,F1,h,hL.mono x1.1,(ok.cold x1).rebase xx (Same.refl _),fin⟩,?_⟩
 rintro i m σ H ⟨rfl,hi,s,F,h,hL,ok,fin⟩
 have s1:Same F1 H:=ok.1.1.trans ok.1.2.1
 by_cases hlt:i<xs.length
 ·right
  obtain ⟨g1,g2⟩:=Y.go i H xs[i] s1 (List.getElem?_eq_getElem hlt)
  refine ⟨g1,fun σ' H'=>i+1≤xs.length∧∃ s F h,Hold (LS s) σ' F h∧Okk F1 H0 F h H'∧Fin K (forO (B:=B) step (xs.drop (i+1)) s) E LS LB O F0 H0 D,fun σ' H' z=>⟨xs.length-(i+1),by lia,rfl,z⟩,fun v H2 hy=>?_⟩
  obtain ⟨F2,x2,hv⟩:=g2 v H2 hy F ok.1.1 ok.1.2.1
  refine hg xs[i] v σ F2 H2 _ x2.2.1 hv fun vs hp=>?_
  refine hb s xs[i] F1 H0 _ F2 h H2 _ (zcj_ hp (hL.mono x2.1)) (ok.cold x2) ?_
  rw [List.drop_eq_getElem_cons hlt] at fin
  unfold forO at fin
  cases e:step s xs[i] with
  | no=>rw [e] at fin; exact fin
  | ex c=>rw [e] at fin; exact fun F h H ok=>fin F h H (ok.unbase xx)
  | ok o =>
   rw [e] at fin
   cases o with
   | nx s'=>exact fun σ' F' h' H' hL' ok'=>⟨hlt,s',F',h',hL',ok',fin⟩
   | ct s'=>exact fun σ' F' h' H' hL' ok'=>⟨hlt,s',F',h',hL',ok',fin⟩
   | bk s'=>exact fun σ' F' h' H' hL' ok'=>fin σ' F' h' H' hL' (ok'.unbase xx)
   | rt a=>exact fun v F h H ok=>fin v F h H (ok.unbase xx)
 ·left
  have e:i=xs.length:=by lia
  subst e
  rw [List.drop_length] at fin
  exact ⟨Y.stop H s1,fin σ F h H hL (ok.unbase xx)⟩
theorem zdU_ {i:Nat}{σ:St}{xs:List α}(hL:Hold L σ F h) (hi:L[i]?=some (.ow (owL T) xs)) (ok:Okk F0 H0 F h H) :
  ∃ p vs,σ[i]?=some (some (.ref p))∧H p=some (.lst vs)∧Prs T F xs vs∧∀ xs' vs',Prs T F xs' vs'→∃ h',Hold (L.set i (.ow (owL T) xs')) σ F h'∧Okk F0 H0 F h' (upd H p (.lst vs')):=by
 obtain ⟨o,h1,h2,e1,j,⟨v,e2,p,vs,rfl,rfl,hr⟩,f⟩:=hL.at i hi
 subst e2
 obtain ⟨o1,o2,o3,o4,o5⟩:=ok
 have hp:h p=some (.lst vs):=j.l _ _ zah_
 have h2p:h2 p=none:=by
  rcases j.dj p with z | z
  ·rw [zah_] at z; cases z
  ·exact z
 have Fp:F p=none:=by
  rcases o2 p with z | z
  ·exact z
  ·rw [hp] at z; cases z
 have H0p:H0 p=none:=o4 p (by rw [hp]; exact Option.some_ne_none _)
 refine ⟨p,vs,e1,o3 _ _ hp,hr,fun xs' vs' hr'=>?_⟩
 have d2:Dj (one p (.lst vs')) h2:=fun q=>by
  unfold one; split
  ·rename_i z; rw [z]; exact .inr h2p
  ·exact .inl rfl
 have g:=f (.ow (owL T) xs') (some (.ref p)) (one p (.lst vs')) _ (zfF_ d2) ⟨_,rfl,p,vs',rfl,rfl,hr'⟩
 rw [zay_ e1] at g
 refine ⟨_,g,⟨o1.1,fun q o z=>?_,fun q o z=>?_,o1.2.2.2⟩,fun q=>?_,fun q o z=>?_,fun q z=>?_,fun q ys z=>?_⟩
 ·unfold upd; split
  ·rename_i w; rw [w,Fp] at z; cases z
  ·exact o1.2.1 _ _ z
 ·unfold upd; split
  ·rename_i w; rw [w,H0p] at z; cases z
  ·exact o1.2.2.1 _ _ z
 ·by_cases w:q=p
  ·rw [w]; exact .inl Fp
  ·unfold un one; simp only [if_neg w]
   rcases o2 q with z | z
   ·exact .inl z
   ·exact .inr (j.r.free z)
 ·unfold un one at z
  unfold upd
  by_cases w:q=p
  ·rw [if_pos w]; simp only [if_pos w] at z; exact z
  ·rw [if_neg w]; simp only [if_neg w] at z; exact o3 _ _ (j.r _ _ z)
 ·unfold un one at z
  by_cases w:q=p
  ·rw [w]; exact H0p
  ·simp only [if_neg w] at z
   cases y:h2 q with
   | none=>exact absurd y z
   | some u=>exact o4 q (by rw [j.r _ _ y]; exact Option.some_ne_none _)
 ·unfold un one at z
  by_cases w:q=p
  ·simp only [if_pos w] at z; cases z
  ·simp only [if_neg w] at z; exact o5 q ys (j.r _ _ z)
theorem zbj_ {i:Nat}{σ:St}{v:V}{Q:VK}(e:σ[i]?=some (some v)) (q:Q v H):mVar i σ H Q:=by unfold mVar; rw [e]; exact q
theorem zb7_ {n:Nat}{r:Mo (Out ρ B S)}{D:Ends}(h:Fin K (Mo.lim n r) E LS LB O F0 H0 D):n≤sizeLine∧Fin K r E LS LB O F0 H0 D:=by
 unfold Mo.lim at h
 split at h
 ·exact ⟨by assumption,h⟩
 ·exact h.elim
theorem zcs_ {i:Nat}{xs:List α}{k:α→Mo (Out ρ B S)}(hi:L[i]?=some (.ow (owL T) xs)) (hT:Imm T) (he:EvF K e E L r T) (hk:∀ a,EvS K u E (L.set i (.ow (owL T) (xs++[a]))) (k a) LS LB O) :
  EvS K (tSeq (tDrop (tBM K "list" rAppend (mVar i) (tCons e tNil))) u) E L (r.bind fun a=>.lim (xs.length+1) (k a)) LS LB O:=by
 intro F0 H0 σ F h H D hL ok fin
 obtain ⟨p,vs,e1,hp,hr,_⟩:=zdU_ hL hi ok
 show mVar i σ H fun x H1=>tyV K "list" x H1∧tCons e tNil σ H1 fun xs H2=>rAppend x xs H2 (fun _ H3=>u D σ H3)
 refine zbj_ e1 ⟨.inl ⟨rfl,vs,.of hp⟩,?_⟩
 refine he σ (un F h) H _ (hL.froz ok.2.1) ok.thaw (z8_ (G:=F) ok _ (.inl rfl) fin fun a F' H' hra x v hv=>?_)
 obtain ⟨o,hs,ht⟩:=ok.back x
 rw [hra] at fin
 obtain ⟨hz,fin⟩:=zb7_ (show Fin K (Mo.lim (xs.length+1) (k a)) E LS LB O F0 H0 D from fin)
 obtain ⟨p',vs',e1',hp',hr',mm⟩:=zdU_ (hL.mono hs) hi o
 rw [e1] at e1'; cases e1'
 obtain ⟨h',a1,a2⟩:=mm (xs++[a]) (vs'++[v]) (hr'.append (.cons (hT ht hv) .nil))
 exact ⟨p,vs',v,rfl,rfl,hp',by rw [← hr'.len]; lia,hk a F0 H0 σ _ h' _ D a1 a2 fin⟩
noncomputable def fnO (r:Mo (Out ρ Unit Unit)):Mo ρ:=r.bind fun o=>match o with | .rt a=>.ok a | _=>.no
inductive Args (F:Hp):List V→List Sl→Prop
 | nil:Args F [] []
 | cons {α:Type}{T:Ty α}{a:α}{v:V}{vs ss} (h:T.R a v F) (t:Args F vs ss):Args F (v::vs) (.fz T a::ss)
theorem Args.hold {vs:List V}{ss:List Sl}(a:Args F vs ss) (n:Nat):Hold (ss++List.replicate n .dead) (vs.map some++List.replicate n none) F (fun _=>none):=by
 induction a with
 | nil =>
  induction n with
  | zero=>trivial
  | succ n ih=>exact ⟨fun _=>none,fun _=>none,fun p=>.inl ⟨rfl,rfl⟩,trivial,ih⟩
 | cons hv t ih=>exact ⟨fun _=>none,fun _=>none,fun p=>.inl ⟨rfl,rfl⟩,⟨_,rfl,hv⟩,ih⟩
noncomputable def CsS (C:Cs γ) (ss:γ→List Sl):Prop:=∀ {c vs F},C.R c vs F→Args F vs (ss c)
theorem zgJ_:CsS csNil fun _=>[]:=fun e=>by rw [e]; exact .nil
theorem zaf_:CsS (csLast T) fun a=>[.fz T a]:=fun ⟨v,e,h⟩=>by rw [e]; exact .cons h .nil
theorem zar_ {C:Cs γ}{ss:γ→List Sl}(h:CsS C ss):CsS (csCons T C) fun c=>.fz T c.1::ss c.2:=fun ⟨v,us,e,q,z⟩=>by rw [e]; exact .cons q (h z)
theorem zdd_ (hs:Same F H):Okk F H F (fun _=>none) H:=by
 refine ⟨.refl hs,fun p=>.inr rfl,fun p o e=>?_,fun p e=>absurd rfl e,fun p xs e=>?_⟩
 ·cases e
 ·cases e
theorem zeD_ {t:XK→TS}{C:Cs γ}{ss:γ→List Sl}{f:γ→Mo (Out ρ Unit Unit)}{N:List Str}(n m:Nat) (hn:CsN C n) (hm:N.length-n=m) (hC:CsS C ss) (h:∀ c E,EvS K (t E) E (ss c++List.replicate m .dead) (f c) (fun _:Unit=>[]) (fun _:Unit=>[]) O) :
  ∀ vs H Q E,Ct K C (fun c=>fnO (f c)) O vs H Q E→t E { nx:=fun _ H'=>Q .non H',rt:=Q } (start N vs) H:=by
 rintro vs H Q E ⟨F,c,hs,hc,q⟩
 have hstart:start N vs=vs.map some++List.replicate m none:=by unfold start; rw [hn hc,hm]
 rw [hstart]
 refine h c E F H _ F (fun _=>none) H _ ((hC hc).hold m) (zdd_ hs) ?_
 have q:After K (fnO (f c)) E F H (OwnK O H Q):=q
 cases e:f c with
 | no=>rw [e] at q; exact q
 | ex cc=>rw [e] at q; exact fun F h H ok=>q F H ok.1
 | ok o =>
  rw [e] at q
  cases o with
  | nx s=>exact q.elim
  | bk s=>exact q.elim
  | ct s=>exact q.elim
  | rt a=>exact fun v F' h' H' ok hv=>q F' H' ok.1 v h' (fun p z=>ok.2.2.2.1 p z) ok.2.1 ok.2.2.1 hv
end
end L2
namespace L2
open PySem PySem.Spec PyProof.Rows
section
variable {K:Fgg}{E:XK}{α β γ ρ S S' B B':Type}{F0 H0 F h H:Hp}{L L':List Sl}{e e1 e2:TE}{T:Ty α}{r:Mo α}{O:Own ρ}{t u:TS}{LS:S→List Sl}{LS':S'→List Sl}{LB:B→List Sl}
noncomputable def CDivG (i j:Int):Prop:=0<j∧Builtin.divisionGoesByPylong i j=false
instance (i j:Int):Decidable (CDivG i j):=inferInstanceAs (Decidable (_∧_))
instance (i j:Int):Decidable (IntMulOk i j):=inferInstanceAs (Decidable (¬ _))
noncomputable abbrev mMulG:R2:=mI IntMulOk fun i j=>.int (i*j)
noncomputable abbrev mDivG:R2:=mI CDivG fun i j=>.int (i / j)
theorem zia_ {X:Cx}:OpR X (binaryOp .Mult) mMulG:=opM (opI fun _ _ _ _ _ _ _ hc q=>mul_int q hc)
theorem zcb_ {X:Cx}:OpR X (binaryOp .FloorDiv) mDivG:=opM (opI fun i j _ _ _ _ _ hc q=>by
 have h1:(0:Int)<j:=hc.1
 exact floordiv_int (by lia) (by rw [Int.fdiv_eq_ediv_of_nonneg i (by lia)]; exact q) (.inl hc.2))
theorem zbq_:Op2 K mDivG E tyInt tyInt (fun i j=>.grd (CDivG i j) (.ok (i / j))) tyInt:=op_i fun _ _ _=>rfl
theorem zbK_ {r:Mo (Out ρ B S)}(w:Sub L L') (hk:EvS K t E L' r LS LB O):EvS K t E L r LS LB O:=fun F0 H0 σ F h H D hL ok fin=>hk F0 H0 σ F h H D (w.hold hL) ok fin
theorem at_ {r:Mo (Out ρ B S)}(L:List Sl) (hk:EvS K t E L r LS LB O):EvS K t E L r LS LB O:=hk
theorem zc1_ (i:Nat) {xs:List α}(h:L[i]?=some (.ow (owL T) xs)):EvF K (mVar i) E L (.ok xs) (tyL T):=zbH_ i h
end
end L2
namespace L2
open PySem PySem.Spec PyProof.Rows
section
variable {α β γ ρ S S' B:Type}
@[simp] theorem Mo.okB (a:α) (f:α→Mo β):(Mo.ok a).bind f=f a:=of_eq_true (eq_self _)
@[simp] theorem Mo.exB (c:String) (f:α→Mo β):(Mo.ex c:Mo α).bind f=.ex c:=of_eq_true (eq_self _)
@[simp] theorem Mo.noB (f:α→Mo β):(Mo.no:Mo α).bind f=.no:=of_eq_true (eq_self _)
@[simp] theorem Mo.noexO (a:α):(Mo.ok a).noex=.ok a:=of_eq_true (eq_self _)
@[simp] theorem Mo.optS (a:α):Mo.opt (some a)=.ok a:=of_eq_true (eq_self _)
@[simp] theorem zgb_ (s:S) (k:S→Mo (Out ρ B S')):thenO (.ok (.nx s)) k=k s:=of_eq_true (eq_self _)
@[simp] theorem zfQ_ (a:ρ) (k:S→Mo (Out ρ B S')):thenO (.ok (.rt a)) k=.ok (.rt a):=of_eq_true (eq_self _)
@[simp] theorem zgy_ (b:B) (k:S→Mo (Out ρ B S')):thenO (.ok (.bk b)) k=.ok (.bk b):=of_eq_true (eq_self _)
@[simp] theorem zfP_ (b:B) (k:S→Mo (Out ρ B S')):thenO (.ok (.ct b)) k=.ok (.ct b):=of_eq_true (eq_self _)
@[simp] theorem ziG_ (a:ρ):fnO (.ok (.rt a))=.ok a:=of_eq_true (eq_self _)
@[simp] theorem zfY_ (step:S→α→Mo (Out ρ S S)) (s:S):forO (B:=B) step [] s=.ok (.nx s):=of_eq_true (eq_self _)
theorem zeX_ (step:S→α→Mo (Out ρ S S)) (x:α) (xs:List α) (s:S):forO (B:=B) step (x::xs) s=(step s x).bind fun o=>match o with | .nx s'=>forO step xs s' | .ct s'=>forO step xs s' | .bk s'=>.ok (.nx s') | .rt a=>.ok (.rt a):=rfl
theorem zg5_ {step:S→α→Mo (Out ρ S S)}{x:α}{xs:List α}{s s':S}(h:step s x=.ok (.nx s')):forO (B:=B) step (x::xs) s=forO step xs s':=by rw [zeX_,h]; rfl
theorem zex_ {step:S→α→Mo (Out ρ S S)}(P:List α→S→Prop):∀ {xs:List α}(done:List α) {s:S},P done s→(∀ d x s,(∃ r,done++xs=d++x::r)→P d s→∃ s',step s x=.ok (.nx s')∧P (d++[x]) s')→∃ s',forO (B:=B) step xs s=.ok (.nx s')∧P (done++xs) s'
 | [],done,s,h0,_=>⟨s,rfl,by rw [List.append_nil]; exact h0⟩
 | x::xs,done,s,h0,h=>by
  obtain ⟨s1,e1,p1⟩:=h done x s ⟨xs,rfl⟩ h0
  obtain ⟨s2,e2,p2⟩:=zex_ P (xs:=xs) (done++[x]) p1 fun d y s ⟨r,hr⟩ hp=>h d y s ⟨r,by rw [← hr]; simp⟩ hp
  exact ⟨s2,by rw [zg5_ e1,e2],by simpa using p2⟩
open PySem PySem.Spec PyProof.Rows in
theorem zhc_ {a j:Int}(h0:0<j) (h:j.natAbs.log2<9000):CDivG a j:=by
 refine ⟨h0,?_⟩
 unfold Builtin.divisionGoesByPylong
 simp only
 rw [Bool.and_eq_false_iff]
 left
 rw [decide_eq_false_iff_not]
 split<;>lia
theorem log2_lt {n k:Nat}(h:n<2 ^ k):n.log2<k∨n=0:=by
 by_cases hz:n=0
 ·exact .inr hz
 ·exact .inl ((Nat.log2_lt hz).mpr h)
theorem zhd_ {a j:Int}(h0:0<j) (h:j<2 ^ 1000):CDivG a j:=by
 refine zhc_ h0 ?_
 have h1:j.natAbs<2 ^ 1000:=by
  have:((2:Int) ^ 1000)=((2 ^ 1000:Nat):Int):=by rw [Int.natCast_pow]; rfl
  rw [this] at h
  lia
 rcases log2_lt h1 with h | h
 ·lia
 ·rw [h]; decide
open PySem PySem.Spec PyProof.Rows in
theorem zb9_ {i j:Int}(h : -(2 ^ 64)<i∧i<2 ^ 64 ∨ -(2 ^ 64)<j∧j<2 ^ 64):IntMulOk i j:=CMul.ok h
@[simp] theorem zg7_ {a j:Int}{k:Mo α}(h0:0<j) (h1:j<1073741824):Mo.grd (CDivG a j) k=k:=Mo.grd_ok (zhd_ h0 (by lia))
@[simp] theorem grd_T {k:Mo α} [Decidable True]:Mo.grd True k=k:=Mo.grd_ok trivial
@[simp] theorem zfl_ {j:Int}{k:Mo α}(h0:0<j):Mo.grd (0<j) k=k:=Mo.grd_ok h0
open PySem PySem.Spec PyProof.Rows in
@[simp] theorem zf1_ {i j:Int}{k:Mo α}(h0 : -18446744073709551616<i) (h1:i<18446744073709551616):Mo.grd (IntMulOk i j) k=k:=Mo.grd_ok (zb9_ (.inl ⟨by lia,by lia⟩))
theorem zeB_ (lo:Int) (n:Nat):(rngI lo n).length=n:=by unfold rngI; rw [List.length_map,List.length_range]
theorem zhQ_ {xs:List α}{k:Int}(h0:0≤k):atI xs k=xs[k.toNat]?:=by
 unfold atI ixN
 rw [if_pos h0]
 split
 ·rfl
 ·rename_i h
  rw [List.getElem?_eq_none (by lia)]; rfl
theorem zbr_ {xs:List α}{k:Int}(h0:0≤k) (h1:k<xs.length):∃ x,atI xs k=some x∧x∈xs:=by
 rw [zhQ_ h0,List.getElem?_eq_getElem (show k.toNat<xs.length by lia)]
 exact ⟨_,rfl,List.getElem_mem _⟩
theorem zdQ_ {q:α→α→Bool}(hq:∀ a,q a a=true):∀ xs:List α,eqL q xs xs=true
 | []=>rfl
 | x::xs=>by unfold eqL; rw [hq,zdQ_ hq xs]; rfl
theorem zgk_ (xs:List α) (lo hi:Option Int):(cutG xs lo hi).length≤xs.length:=by
 unfold cutG; rw [List.length_take,List.length_drop]; lia
end
end L2
namespace L2
open PySem PySem.Spec PyProof.Rows
section
variable {K:Fgg}{E:XK}{α β γ ρ S S' B B':Type}{F0 H0 F h H:Hp}{L L':List Sl}{e e1 e2:TE}{T:Ty α}{r:Mo α}{O:Own ρ}{t u:TS}{LS:S→List Sl}{LS':S'→List Sl}{LB:B→List Sl}
theorem zh3_ {p:Addr}{o':HO}{h1' hr h':Hp}(ok:Okk F0 H0 F h H) (hp:h p≠none) (nt:∀ xs,o'≠.tup xs) (h':Hp) (hh:∀ q,h' q=if q=p then some o' else h q):Okk F0 H0 F h' (upd H p o'):=by
 obtain ⟨o1,o2,o3,o4,o5⟩:=ok
 have Fp:F p=none:=by
  rcases o2 p with z | z
  ·exact z
  ·exact absurd z hp
 have H0p:H0 p=none:=o4 p hp
 refine ⟨⟨o1.1,fun q o z=>?_,fun q o z=>?_,o1.2.2.2⟩,fun q=>?_,fun q o z=>?_,fun q z=>?_,fun q ys z=>?_⟩
 ·unfold upd; split
  ·rename_i w; rw [w,Fp] at z; cases z
  ·exact o1.2.1 _ _ z
 ·unfold upd; split
  ·rename_i w; rw [w,H0p] at z; cases z
  ·exact o1.2.2.1 _ _ z
 ·rw [hh]; split
  ·rename_i w; rw [w]; exact .inl Fp
  ·exact o2 q
 ·rw [hh] at z; unfold upd
  split at z
  ·rename_i w; rw [if_pos w]; exact z
  ·rename_i w; rw [if_neg w]; exact o3 _ _ z
 ·rw [hh] at z; split at z
  ·rename_i w; rw [w]; exact H0p
  ·exact o4 q z
 ·rw [hh] at z; split at z
  ·exact nt ys (by injection z)
  ·exact o5 q ys z
end
end L2
namespace L2
open PySem PySem.Spec PyProof.Rows
section
variable {K:Fgg}{E:XK}{α β γ ρ S S' B B':Type}{F0 H0 F h H:Hp}{L L':List Sl}{e e1 e2:TE}{T:Ty α}{r:Mo α}{O:Own ρ}{t u:TS}{LS:S→List Sl}{LS':S'→List Sl}{LB:B→List Sl}
@[irreducible] def fuelW:Nat:=100000
noncomputable def mLtS:R2:=fun x y H Q=>match x,y with
 | .int i,.int j=>Q (.bl (decide (i<j))) H
 | .str i,.str j=>Q (.bl (decide (i.cps.toList<j.cps.toList))) H
 | _,_=>False
theorem zhC_ {X:Cx}:OpR X (compareOp .Lt) mLtS:=by
 intro pins s σ H x y v u Q I rx ry h
 cases x<;>cases y<;>first
  | exact h.elim
  | exact op_lt pins s σ H _ _ v u Q I rx ry ⟨_,_,rfl,rfl,h⟩
  | exact zeP_ pins s σ H _ _ v u Q I rx ry ⟨_,_,rfl,rfl,h⟩
end
end L2
namespace L2
open PySem PySem.Spec PyProof.Rows
section
variable {α:Type}
theorem zau_ {S B ρ:Type}{step:S→α→Mo (Out ρ S S)}{xs:List α}{s:S}{G:Mo (Out ρ B S)→Prop}(P:List α→S→Prop) (h0:P [] s) (hs:∀ d x s,(∃ r,xs=d++x::r)→P d s→∃ s',step s x=.ok (.nx s')∧P (d++[x]) s') (hk:∀ s',P xs s'→G (.ok (.nx s'))):G (forO step xs s):=by
 obtain ⟨s',e,p⟩:=zex_ (B:=B) P (xs:=xs) [] h0 (fun d x s hr hp=>hs d x s hr hp)
 rw [e]
 exact hk s' p
noncomputable def insK (k:α→Nat) (x:α) (ys:List α):List α:=ys.filter (fun y=>decide (k y≤k x))++x::ys.filter (fun y=>decide (k x<k y))
noncomputable def sK (k:α→Nat) (xs:List α):List α:=xs.foldl (fun acc x=>insK k x acc) []
noncomputable def Srt (k:α→Nat) (ys:List α):Prop:=ys.Pairwise fun a b=>k a≤k b
theorem za5_ (k:α→Nat) (xs:List α) (x:α):sK k (xs++[x])=insK k x (sK k xs):=by unfold sK; rw [List.foldl_append]; rfl
theorem zU_ {P:List α→Prop}(h0:P []) (hs:∀ xs x,P xs→P (xs++[x])) (xs:List α):P xs:=by
 have:∀ n (xs:List α),xs.length=n→P xs:=by
  intro n
  induction n with
  | zero=>intro xs e; rw [List.length_eq_zero_iff.mp e]; exact h0
  | succ n ih =>
   intro xs e
   have hne:xs≠[]:=fun z=>by rw [z] at e; cases e
   rw [← List.dropLast_concat_getLast hne]
   exact hs _ _ (ih _ (by rw [List.length_dropLast,e]; rfl))
 exact this _ xs rfl
theorem zc7_ {k:α→Nat}{ys:List α}(h:Srt k ys) (m:Nat):ys=ys.filter (fun y=>decide (k y≤m))++ys.filter (fun y=>decide (m<k y)):=by
 induction ys with
 | nil=>rfl
 | cons y ys ih =>
  obtain ⟨h1,h2⟩:=List.pairwise_cons.mp h
  by_cases hy:k y≤m
  ·rw [List.filter_cons_of_pos (by simpa using hy),List.filter_cons_of_neg (by simpa using hy),List.cons_append,← ih h2]
  ·have e:(y::ys).filter (fun y=>decide (k y≤m))=[]:=by
    rw [List.filter_eq_nil_iff]
    intro z hz
    rcases List.mem_cons.mp hz with rfl | hz
    ·simpa using hy
    ·have:=h1 z hz; simp; lia
   have e2:(y::ys).filter (fun y=>decide (m<k y))=y::ys:=by
    rw [List.filter_eq_self]
    intro z hz
    rcases List.mem_cons.mp hz with rfl | hz
    ·simp; lia
    ·have:=h1 z hz; simp; lia
   rw [e,e2,List.nil_append]
theorem zhU_ {k:α→Nat}{ys:List α}(h:Srt k ys) (x:α):Srt k (insK k x ys):=by
 unfold insK Srt
 rw [List.pairwise_append]
 refine ⟨List.Pairwise.filter _ h,?_,?_⟩
 ·rw [List.pairwise_cons]
  refine ⟨fun a ha=>?_,List.Pairwise.filter _ h⟩
  have:=(List.mem_filter.mp ha).2
  simp at this; lia
 ·intro a ha b hb
  have h1:=(List.mem_filter.mp ha).2
  simp at h1
  rcases List.mem_cons.mp hb with rfl | hb
  ·exact h1
  ·have h2:=(List.mem_filter.mp hb).2
   simp at h2; lia
theorem zgS_ (k:α→Nat) (xs:List α):Srt k (sK k xs):=by
 induction xs using zU_ with
 | h0=>exact List.Pairwise.nil
 | hs xs x ih=>rw [za5_]; exact zhU_ ih x
theorem zgc_ {k:α→Nat}{x y:α}{ys:List α}:y∈insK k x ys↔y=x∨y∈ys:=by
 unfold insK
 simp only [List.mem_append,List.mem_cons,List.mem_filter,decide_eq_true_eq]
 constructor
 ·rintro (h | h | h)
  ·exact .inr h.1
  ·exact .inl h
  ·exact .inr h.1
 ·rintro (h | h)
  ·exact .inr (.inl h)
  ·by_cases z:k y≤k x
   ·exact .inl ⟨h,z⟩
   ·exact .inr (.inr ⟨h,by lia⟩)
theorem zgN_ {k:α→Nat}{y:α}(xs:List α):y∈sK k xs↔y∈xs:=by
 induction xs using zU_ with
 | h0=>rfl
 | hs xs x ih=>rw [za5_,zgc_,ih,List.mem_append,List.mem_singleton]; exact or_comm
theorem zgv_ (k:α→Nat) (x:α) (ys:List α):(insK k x ys).length=ys.length+1:=by
 unfold insK
 rw [List.length_append,List.length_cons]
 induction ys with
 | nil=>rfl
 | cons y ys ih =>
  by_cases hy:k y≤k x
  ·rw [List.filter_cons_of_pos (by simpa using hy),List.filter_cons_of_neg (by simpa using hy)]; simp only [List.length_cons]; lia
  ·rw [List.filter_cons_of_neg (by simpa using hy),List.filter_cons_of_pos (by simp; lia)]; simp only [List.length_cons]; lia
theorem zjh_ (k:α→Nat) (xs:List α):(sK k xs).length=xs.length:=by
 induction xs using zU_ with
 | h0=>rfl
 | hs xs x ih=>rw [za5_,zgv_,ih,List.length_append,List.length_singleton]
theorem sK_id {k:α→Nat}{ys:List α}(h:Srt k ys):sK k ys=ys:=by
 induction ys using zU_ with
 | h0=>rfl
 | hs xs x ih =>
  obtain ⟨h1,_,h3⟩:=List.pairwise_append.mp h
  rw [za5_,ih h1]
  unfold insK
  have e1:xs.filter (fun y=>decide (k y≤k x))=xs:=by
   rw [List.filter_eq_self]; intro y hy; simpa using h3 y hy x (List.mem_singleton.mpr rfl)
  have e2:xs.filter (fun y=>decide (k x<k y))=[]:=by
   rw [List.filter_eq_nil_iff]; intro y hy; have:=h3 y hy x (List.mem_singleton.mpr rfl); simp; lia
  rw [e1,e2]
theorem zfB_ (xs:List α):sK (fun _=>0) xs=xs:=sK_id (List.pairwise_of_forall fun _ _=>Nat.le_refl _)
noncomputable def dealR (r:α→Nat) (n:Nat) (ys:List α):List α:=(List.range n).flatMap fun i=>ys.filter fun y=>decide (r y=i)
theorem zdE_ {n i:Nat}(h:i<n):List.range n=List.range i++i::(List.range (n-i-1)).map (fun j=>i+1+j):=by
 have e:n=(i+1)+(n-i-1):=by lia
 conv=>lhs; rw [e,List.range_add,List.range_succ,List.append_assoc]
 simp
theorem za6_ {β:Type}{f g:α→List β}{l:List α}(h:∀ a∈l,f a=g a):l.flatMap f=l.flatMap g:=by
 induction l with
 | nil=>rfl
 | cons a l ih=>rw [List.flatMap_cons,List.flatMap_cons,h a List.mem_cons_self,ih fun b hb=>h b (List.mem_cons_of_mem _ hb)]
theorem zbY_ {β:Type}(p:β→Bool) (f:α→List β) (l:List α):(l.flatMap f).filter p=l.flatMap fun a=>(f a).filter p:=by
 induction l with
 | nil=>rfl
 | cons a l ih=>rw [List.flatMap_cons,List.flatMap_cons,List.filter_append,ih]
theorem za0_ {β:Type}{f:α→List β}{l:List α}(h:∀ a∈l,f a=[]):l.flatMap f=[]:=by
 induction l with
 | nil=>rfl
 | cons a l ih=>rw [List.flatMap_cons,h a List.mem_cons_self,ih fun b hb=>h b (List.mem_cons_of_mem _ hb)]; rfl
theorem zgr_ {k r:α→Nat}{M n:Nat}{ys:List α}{x:α}(hs:Srt k ys) (hk:∀ y∈ys,k y<M) (hkx:k x<M) (hr:r x<n) :
  insK (fun a=>r a*M+k a) x (dealR r n ys)=dealR r n (insK k x ys):=by
 have less:∀ a b:Nat,a<b→∀ u v:Nat,u<M→a*M+u<b*M+v:=by
  intro a b hab u v hu
  have:(a+1)*M≤b*M:=Nat.mul_le_mul_right _ hab
  rw [Nat.add_mul,Nat.one_mul] at this
  lia
 generalize hA:ys.filter (fun y=>decide (k y≤k x))=A
 generalize hB:ys.filter (fun y=>decide (k x<k y))=B
 have hys:ys=A++B:=by rw [← hA,← hB]; exact zc7_ hs (k x)
 have hAk:∀ y∈A,k y≤k x∧k y<M:=fun y hy=>by
  rw [← hA] at hy; obtain ⟨h1,h2⟩:=List.mem_filter.mp hy; exact ⟨by simpa using h2,hk y h1⟩
 have hBk:∀ y∈B,k x<k y∧k y<M:=fun y hy=>by
  rw [← hB] at hy; obtain ⟨h1,h2⟩:=List.mem_filter.mp hy; exact ⟨by simpa using h2,hk y h1⟩
 have e1:insK k x ys=A++x::B:=by unfold insK; rw [hA,hB]
 rw [e1]
 unfold insK dealR
 rw [zdE_ hr]
 simp only [List.flatMap_append,List.flatMap_cons,List.filter_append,zbY_,List.filter_filter]
 have lo1:(List.range (r x)).flatMap (fun i=>ys.filter fun a=>(decide (r a*M+k a≤r x*M+k x) && decide (r a=i)))=(List.range (r x)).flatMap fun i=>(A++x::B).filter fun y=>decide (r y=i):=by
  refine za6_ fun i hi=>?_
  have hi:=List.mem_range.mp hi
  rw [List.filter_append,List.filter_cons_of_neg (by simp; lia),← List.filter_append,← hys]
  refine List.filter_congr fun y hy=>?_
  by_cases z:r y=i
  ·have:=less (r y) (r x) (by lia) (k y) (k x) (hk y hy)
   simp [z]; rw [z] at this; lia
  ·simp [z]
 have lo2:(List.range (r x)).flatMap (fun i=>ys.filter fun a=>(decide (r x*M+k x<r a*M+k a) && decide (r a=i)))=[]:=by
  refine za0_ fun i hi=>?_
  have hi:=List.mem_range.mp hi
  rw [List.filter_eq_nil_iff]
  intro y hy
  by_cases z:r y=i
  ·have:=less (r y) (r x) (by lia) (k y) (k x) (hk y hy)
   simp [z]; rw [z] at this; lia
  ·simp [z]
 have hi1:((List.range (n-r x-1)).map fun j=>r x+1+j).flatMap (fun i=>ys.filter fun a=>(decide (r a*M+k a≤r x*M+k x) && decide (r a=i)))=[]:=by
  refine za0_ fun i hi=>?_
  obtain ⟨j,_,rfl⟩:=List.mem_map.mp hi
  rw [List.filter_eq_nil_iff]
  intro y hy
  by_cases z:r y=r x+1+j
  ·have:=less (r x) (r y) (by lia) (k x) (k y) hkx
   simp [z]; rw [z] at this; lia
  ·simp [z]
 have hi2:((List.range (n-r x-1)).map fun j=>r x+1+j).flatMap (fun i=>ys.filter fun a=>(decide (r x*M+k x<r a*M+k a) && decide (r a=i)))=((List.range (n-r x-1)).map fun j=>r x+1+j).flatMap fun i=>(A++x::B).filter fun y=>decide (r y=i):=by
  refine za6_ fun i hi=>?_
  obtain ⟨j,_,rfl⟩:=List.mem_map.mp hi
  rw [List.filter_append,List.filter_cons_of_neg (by simp; lia),← List.filter_append,← hys]
  refine List.filter_congr fun y hy=>?_
  by_cases z:r y=r x+1+j
  ·have:=less (r x) (r y) (by lia) (k x) (k y) hkx
   simp [z]; rw [z] at this; lia
  ·simp [z]
 have mid1:ys.filter (fun a=>(decide (r a*M+k a≤r x*M+k x) && decide (r a=r x)))=A.filter fun y=>decide (r y=r x):=by
  rw [hys,List.filter_append]
  have:B.filter (fun a=>(decide (r a*M+k a≤r x*M+k x) && decide (r a=r x)))=[]:=by
   rw [List.filter_eq_nil_iff]
   intro y hy
   have:=hBk y hy
   by_cases z:r y=r x
   ·simp [z]; lia
   ·simp [z]
  rw [this,List.append_nil]
  refine List.filter_congr fun y hy=>?_
  have:=hAk y hy
  by_cases z:r y=r x
  ·simp [z]; lia
  ·simp [z]
 have mid2:ys.filter (fun a=>(decide (r x*M+k x<r a*M+k a) && decide (r a=r x)))=B.filter fun y=>decide (r y=r x):=by
  rw [hys,List.filter_append]
  have:A.filter (fun a=>(decide (r x*M+k x<r a*M+k a) && decide (r a=r x)))=[]:=by
   rw [List.filter_eq_nil_iff]
   intro y hy
   have:=hAk y hy
   by_cases z:r y=r x
   ·simp [z]; lia
   ·simp [z]
  rw [this,List.nil_append]
  refine List.filter_congr fun y hy=>?_
  have:=hBk y hy
  by_cases z:r y=r x
  ·simp [z]; lia
  ·simp [z]
 rw [lo1,lo2,hi1,hi2,mid1,mid2]
 have emid:(x::B).filter (fun y=>decide (r y=r x))=x::B.filter (fun y=>decide (r y=r x)):=List.filter_cons_of_pos (by simp)
 simp only [List.filter_append,emid,List.append_nil,List.nil_append,List.append_assoc,List.cons_append]
theorem zgZ_ {k r:α→Nat}{M n:Nat}(xs:List α) (hk:∀ y∈xs,k y<M) (hr:∀ y∈xs,r y<n):sK (fun a=>r a*M+k a) xs=dealR r n (sK k xs):=by
 induction xs using zU_ with
 | h0=>unfold dealR; exact (za0_ fun _ _=>rfl).symm
 | hs xs x ih =>
  have hx:x∈xs++[x]:=List.mem_append_right _ (List.mem_singleton.mpr rfl)
  rw [za5_,za5_,ih (fun y hy=>hk y (List.mem_append_left _ hy)) (fun y hy=>hr y (List.mem_append_left _ hy))]
  exact zgr_ (zgS_ k xs) (fun y hy=>hk y (List.mem_append_left _ ((zgN_ xs).mp hy))) (hk x hx) (hr x hx)
end
noncomputable abbrev Crd:=List Nat
noncomputable def isC (c:Crd):Prop:=c.length=40∧∀ x∈c,x∈SG
noncomputable def sg (c:Crd) (col:Int):Nat:=c.getD (col-1).toNat 0
noncomputable def rk1 (x:Nat):Nat:=(SG.findIdx? (· == x)).getD 0 % 37
noncomputable def rnk (c:Crd) (col:Int):Nat:=rk1 (sg c col)
noncomputable def colOk (col:Int):Prop:=1≤col∧col≤40
theorem zgI_ (x:Nat):rk1 x<37:=Nat.mod_lt _ (by decide)
noncomputable def kv:List Int→Crd→Nat
 | [],_=>0
 | c::L,a=>rnk a c*37 ^ L.length+kv L a
theorem kv_lt (L:List Int) (a:Crd):kv L a<37 ^ L.length:=by
 induction L with
 | nil=>exact Nat.zero_lt_one
 | cons c L ih =>
  unfold kv
  rw [List.length_cons,Nat.pow_succ]
  have h:=zgI_ (sg a c)
  have:(rnk a c+1)*37 ^ L.length≤37*37 ^ L.length:=Nat.mul_le_mul_right _ h
  rw [Nat.add_mul,Nat.one_mul] at this
  rw [Nat.mul_comm (37 ^ L.length)]
  lia
noncomputable def deal (d:List Crd) (c:Int):List Crd:=dealR (fun x=>rnk x c) 37 d
theorem zdj_ (L:List Int) (c:Int) (d:List Crd):deal (sK (kv L) d) c=sK (kv (c::L)) d:=by
 have:=zgZ_ (k:=kv L) (r:=fun x=>rnk x c) (M:=37 ^ L.length) (n:=37) d (fun y _=>kv_lt L y) (fun y _=>zgI_ _)
 exact this.symm
theorem zhD_:kv []=fun _=>0:=rfl
theorem zd3_ (row L:List Int) (d:List Crd):row.foldl deal (sK (kv L) d)=sK (kv (row.reverse++L)) d:=by
 induction row generalizing L with
 | nil=>rfl
 | cons c row ih=>rw [List.foldl_cons,zdj_,ih,List.reverse_cons,List.append_assoc]; rfl
theorem zeI_ (row:List Int) (d:List Crd):row.foldl deal d=sK (kv row.reverse) d:=by
 have:=zd3_ row [] d
 rw [zhD_,zfB_,List.append_nil] at this
 exact this
noncomputable def ahd:List Int→Crd→Crd→Bool
 | [],_,_=>false
 | c::L,a,b=>if rnk a c=rnk b c then ahd L a b else decide (rnk a c<rnk b c)
noncomputable def onceL (L:List Int):List Int:=L.foldl (fun acc c=>if c∈acc then acc else acc++[c]) []
end L2
namespace L2
open PySem PySem.Spec PyProof.Rows
end L2
namespace L2
open PySem PySem.Spec PyProof.Rows
open PySem.SeqAt
open PySem.AutoSeq1 (wpAny_loadPart')
open PySem.MeetsSeq PySem.MeetsSeq2 PySem.MeetsSeq3
theorem zd7_:entryFor table "list.__eq__.loop" = some Builtin.«list.__eq__.loop»:=by kernel_rfl!
theorem zcd_ (A:Around) (args:PySem.Args):A.under (Code.builtin "list.__eq__.loop" args)=A.in1:=by rfl
theorem zb6_ (args:PySem.Args):(Code.builtin "list.__eq__.loop" args).quiet=true:=by first | kernel_rfl! | simp [Code.quiet] | (unfold Code.quiet; decide +kernel)
theorem zbo_:∀ {vs:List Value}{ns:List Int},IntsAre vs ns→∀ i:Nat,(vs[i]?=none∧ns[i]?=none)∨∃ a t,vs[i]?=some (.int a t)∧ns[i]?=some a
 | _,_,.nil,i=>.inl ⟨rfl,rfl⟩
 | _,_,.cons a t h,0=>.inr ⟨a,t,rfl,rfl⟩
 | _,_,.cons a t h,i+1=>by simpa using zbo_ h i
theorem za1_ {α:Type}{xs:List α}{i:Nat}{a:α}(h:xs[i]?=some a):xs.drop i=a::xs.drop (i+1):=by
 obtain ⟨hi,e⟩:=List.getElem?_eq_some_iff.mp h
 rw [← e]; exact List.drop_eq_getElem_cons hi
theorem zbP_ {α:Type}{xs:List α}{i:Nat}(h:xs[i]?=none):xs.drop i=[]:=List.drop_eq_nil_of_le (List.getElem?_eq_none_iff.mp h)
theorem zcu_ (l b:Addr) (items items2:Array Value) (n n2:Nat) (dd dd2:Option Addr) (sl sl2:Array (Option Value)) (ns ms:List Int) (hi:IntsAre items.toList ns) (hj:IntsAre items2.toList ms):∀ (k i:Nat),items.size-i=k→i≤items.size→i≤items2.size →
  Meets (Builtin.«list.__eq__.loop» ⟨[.ref l,.ref b,rawInt (i:Nat),rawInt 0],[]⟩)
   (fun _ R s=>s.heap.get? l=some { cls:=.type "list",dict:=dd,data:=.seq items n,slots:=sl }∧s.heap.get? b=some { cls:=.type "list",dict:=dd2,data:=.seq items2 n2,slots:=sl2 } ∧
    R (.ok (.ret (.bool (HT.lexLt (ns.drop i) (ms.drop i))))) s):=by
 intro k
 induction k with
 | zero =>
  intro i hk b1 b2 prog w A R s h
  obtain ⟨hl,hb,h⟩:=h
  wp_walk using wpAny_listItems hl rfl,wpAny_listItems hb rfl
  have e1:items[i]?=none:=Array.getElem?_eq_none (by lia)
  have e1':ns[i]?=none:=by
   rcases zbo_ hi i with ⟨_,z⟩ | ⟨a,t,z,_⟩
   ·exact z
   ·rw [Array.getElem?_toList,e1] at z; cases z
  rw [Int.toNat_natCast,e1]
  rw [zbP_ e1'] at h
  rcases zbo_ hj i with ⟨z1,z2⟩ | ⟨c,u,z1,z2⟩
  ·rw [Array.getElem?_toList] at z1
   rw [z1]
   rw [zbP_ z2] at h
   wp_walk using wpAny_listItems hl rfl,wpAny_listItems hb rfl
   show R (.ok (.ret (.bool (decide (items.size<items2.size))))) s
   have z1:=Array.getElem?_eq_none_iff.mp z1
   rw [decide_eq_false (by lia)]; exact h
  ·rw [Array.getElem?_toList] at z1
   rw [z1]
   rw [za1_ z2] at h
   wp_walk using wpAny_listItems hl rfl,wpAny_listItems hb rfl
   show R (.ok (.ret (.bool (decide (items.size<items2.size))))) s
   have z3:=(Array.getElem?_eq_some_iff.mp z1).1
   rw [decide_eq_true (by lia)]; exact h
 | succ k ih =>
  intro i hk b1 b2 prog w A R s h
  obtain ⟨hl,hb,h⟩:=h
  wp_walk using wpAny_listItems hl rfl,wpAny_listItems hb rfl
  rw [Int.toNat_natCast]
  rcases zbo_ hi i with ⟨z1,z2⟩ | ⟨a,t,z1,z2⟩
  ·rw [Array.getElem?_toList] at z1
   rw [Array.getElem?_eq_none_iff] at z1; lia
  rw [Array.getElem?_toList] at z1
  rw [z1]
  rw [za1_ z2] at h
  rcases zbo_ hj i with ⟨y1,y2⟩ | ⟨c,u,y1,y2⟩
  ·rw [Array.getElem?_toList] at y1
   rw [y1]
   rw [zbP_ y2] at h
   wp_walk using wpAny_listItems hl rfl,wpAny_listItems hb rfl
   show R (.ok (.ret (.bool (decide (items.size<items2.size))))) s
   have z3:=(Array.getElem?_eq_some_iff.mp z1).1
   have y3:=Array.getElem?_eq_none_iff.mp y1
   rw [decide_eq_false (by lia)]; exact h
  rw [Array.getElem?_toList] at y1
  rw [y1]
  rw [za1_ y2,HT.lexLt_cons] at h
  obtain ⟨e,he,hiff⟩:=HT.eqAt_int A.in1 s a t c u
  refine wpAny_bind (he prog w _ _ ?_)
  cases e with
  | true =>
   rw [if_pos (hiff.mp rfl)] at h
   wp_walk
   refine ⟨zb6_ _,codeAny_builtin zd7_ ?_⟩
   rw [zcd_]
   have q1:=(Array.getElem?_eq_some_iff.mp z1).1
   have q2:=(Array.getElem?_eq_some_iff.mp y1).1
   exact ih (i+1) (by lia) (by lia) (by lia) prog w A R s ⟨hl,hb,h⟩
  | false =>
   rw [if_neg (fun q=>absurd (hiff.mpr q) Bool.false_ne_true)] at h
   have hri:=HT.rcLt_int A.in1 s a t c u prog w
   wp_walk using wpAny_listItems hl rfl,wpAny_listItems hb rfl
   rw [z1,y1]
   wp_walk using hri
   exact h
theorem zcK_ (l b:Addr) (items items2:Array Value) (n n2:Nat) (dd dd2:Option Addr) (sl sl2:Array (Option Value)) (ns ms:List Int) (hi:IntsAre items.toList ns) (hj:IntsAre items2.toList ms) :
  Meets (Builtin.«list.__lt__» ⟨[.ref l,.ref b],[]⟩)
   (fun _ R s=>s.heap.get? l=some { cls:=.type "list",dict:=dd,data:=.seq items n,slots:=sl }∧s.heap.get? b=some { cls:=.type "list",dict:=dd2,data:=.seq items2 n2,slots:=sl2 } ∧
    R (.ok (.ret (.bool (HT.lexLt ns ms)))) s):=by
 intro prog w A R s h
 obtain ⟨hl,hb,h⟩:=h
 have f2:=AutoSeq1.sub_list_list
 wp_walk using wpAny_loadPart' hl,wpAny_loadPart' hb
 refine ⟨zb6_ _,codeAny_builtin zd7_ ?_⟩
 rw [zcd_]
 exact zcu_ l b items items2 n n2 dd dd2 sl sl2 ns ms hi hj _ 0 rfl (Nat.zero_le _) (Nat.zero_le _) prog w A R s ⟨hl,hb,h⟩
theorem zdl_ {prog:Program}{w:World}{A:Around}{E:Value→Shared→Prop}{s:Shared}{l b:Addr}{items items2:Array Value}{ns ms:List Int}{Q:Value→Shared→Prop}(hl:s.heap.IsList l items) (hb:s.heap.IsList b items2) (hi:IntsAre items.toList ns) (hj:IntsAre items2.toList ms)
  (hu:A.units<cLine) (h:Q (.bool (HT.lexLt ns ms)) s):wpAny (model prog w) A (compareOp .Lt (.ref l) (.ref b)) Q E s:=by
 obtain ⟨⟨cls,dd,data,sl⟩,ho,hc,n,hd⟩:=id hl
 obtain ⟨⟨cls2,dd2,data2,sl2⟩,ho2,hc2,n2,hd2⟩:=id hb
 simp only at hc hd hc2 hd2
 subst hc hd hc2 hd2
 exact richCompare_meets_room (op:=.Lt) ⟨_,ho,rfl⟩ ⟨_,ho2,rfl⟩ PySem.F.slot_list_lt PySem.F.entry_list_lt (PySem.F.args_list_lt_2 _ _) (zcK_ l b items items2 n n2 dd dd2 sl sl2 ns ms hi hj)
  ⟨ho,ho2,show Value.bool (HT.lexLt ns ms)≠Value.notImplemented∧Q (.bool (HT.lexLt ns ms)) s from ⟨(fun x=>nomatch x),h⟩⟩ hu
end L2
namespace L2
open PySem PySem.Spec PyProof.Rows
noncomputable def mLtK (K:Fgg):R2:=fun x y H Q=>match x,y with
 | .ref a,.ref b=>∃ ns ms,SqL K H a (ns.map V.int)∧SqL K H b (ms.map V.int)∧Q (.bl (HT.lexLt ns ms)) H
 | _,_=>mLtS x y H Q
theorem zf2_ {X:Cx}(hu:X.A.units+60<cLine):OpR X (compareOp .Lt) (mLtK X.K):=by
 intro pins s σ H x y v u Q I rx ry h
 cases x<;>cases y<;>first
  | exact zhC_ pins s σ H _ _ v u Q I rx ry h
  | (obtain ⟨ns,ms,ha,hb,q⟩:=h
     cases rx
     cases ry
     obtain ⟨its,r1,p1,_⟩:=I.list ha
     obtain ⟨its2,r2,p2,_⟩:=I.list hb
     have i1:IntsAre its.toArray.toList ns:=zcm_ r1
     have i2:IntsAre its2.toArray.toList ms:=zcm_ r2
     exact zdl_ p1.isList p2.isList i1 i2 (by lia) ⟨.bl (HT.lexLt ns ms),H,I,rfl,q⟩)
section
variable {K:Fgg}{E:XK}{H:Hp}
theorem zes_:Op2 K (mLtK K) E tyInt tyInt (fun i j=>.ok (decide (i<j))) tyBl:=by
 rintro a b x y F H Q hs rfl rfl k
 exact k.ok hs _ rfl
end
end L2
namespace L2
open PySem PySem.Spec PyProof.Rows
section
variable {α:Type}
theorem zhb_ {n d:Nat}{i:Int}(h:0≤i):HT.sIx n d (some i)=min i.toNat n:=by
 unfold HT.sIx
 simp only
 split<;>lia
theorem zgR_ {xs:List α}{i:Int}(h:0≤i):cutG xs none (some i)=xs.take i.toNat:=by
 unfold cutG
 rw [zhb_ h,show HT.sIx xs.length 0 none=0 from rfl,List.drop_zero,Nat.sub_zero,← List.take_take,List.take_length]
theorem ze0_ {xs:List α}{i:Int}(h:0≤i):cutG xs (some i) none=xs.drop i.toNat:=by
 unfold cutG
 rw [zhb_ h,show HT.sIx xs.length xs.length none=xs.length from rfl]
 by_cases hl:i.toNat≤xs.length
 ·rw [Nat.min_eq_left hl,List.take_of_length_le (by rw [List.length_drop]; exact Nat.le_refl _)]
 ·rw [Nat.min_eq_right (by lia),List.drop_length,List.drop_eq_nil_of_le (by lia),List.take_nil]
end
end L2
namespace L2
open PySem PySem.Spec PyProof.Rows
section
variable {K:Fgg}{E:XK}{α β γ ρ S S' B B':Type}{F0 H0 F h H:Hp}{L L':List Sl}{e e1 e2:TE}{T:Ty α}{r:Mo α}{O:Own ρ}{t u:TS}{LS:S→List Sl}{LS':S'→List Sl}{LB:B→List Sl}
theorem zK_ {C:Cs γ}{f:γ→Mo α}{ta:TA}{r:Mo γ}(h:EvA K ta E L r C):EvF K (tCall (Ct K C f (owF T)) [] E0 ta) E L (r.bind fun c=>(f c).noex) T:=(zbv_ h).fr
theorem zhl_ {n c:String}{bb:Bool}{r:Mo (Option α)}(hn:TyN K T n) (h:EvF K e E L r (tyOpt T)) (hb:isaB n c=some bb:=by decide) (hb2:isaB "NoneType" c=some false:=by decide):EvF K (tCB (mIsa K) (tCons e (tCons (tC (.ty c)) tNil))) E L (r.bind fun a=>.ok (a.isSome && bb)) tyBl:=by
 intro σ F H Q hL hs q
 refine h σ F H _ hL hs (q.bind.imp fun l F1 H1 x1 k1 v hv=>?_)
 cases l with
 | none =>
  cases (show v=.non from hv)
  exact zeh_ (K:=K) (n := "NoneType") (x:=.non) rfl hb2 (k1.ok x1.2.1 _ rfl)
 | some a=>exact zeh_ (hn (T.mono x1.2.1 hv.1)) hb (k1.ok x1.2.1 _ rfl)
end
end L2
namespace L2
open PySem PySem.Spec PyProof.Rows
noncomputable def repL {α:Type}(xs:List α) (n:Int):List α:=(List.replicate n.toNat xs).flatten
noncomputable def CRep (m:Nat) (n:Int):Prop:=0≤n∧n≤100000∧m≤100000∧m*n.toNat≤100000
instance (m:Nat) (n:Int):Decidable (CRep m n):=inferInstanceAs (Decidable (_∧_))
noncomputable def mMulX:R2:=fun x y H Q=>match x,y with
 | .int i,.int j=>IntMulOk i j∧Q (.int (i*j)) H
 | .str z,.int n=>CRep z.cps.toList.length n∧Q (tx (repL z.cps.toList n)) H
 | .ref l,.int k=>∃ xs,H l=some (.lst xs)∧CRep xs.length k∧∀ p,H p=none→Q (.ref p) (upd H p (.lst (repL xs k)))
 | _,_=>False
theorem zfi_ (z:Array Nat) (n:Nat):(List.foldl (fun x1 x2=>x1++x2) #[] (List.replicate n z)).toList=(List.replicate n z.toList).flatten:=by
 have:∀ (l:List (Array Nat)) (acc:Array Nat),(l.foldl (fun x1 x2=>x1++x2) acc).toList=acc.toList++(l.map Array.toList).flatten:=by
  intro l
  induction l with
  | nil=>intro acc; simp
  | cons a l ih=>intro acc; rw [List.foldl_cons,ih]; simp
 rw [this]
 simp
theorem zh2_ {X:Cx}:OpR X (binaryOp .Mult) mMulX:=by
 intro pins s σ H x y v u Q I rx ry h
 cases x<;>cases y<;>first
  | exact h.elim
  | exact zia_ pins s σ H _ _ v u Q I rx ry h
  | (obtain ⟨xs,hl,⟨c1,c2,c3,c4⟩,q⟩:=h
     exact zjn_ pins s σ H _ _ v u Q I rx ry ⟨_,_,xs,rfl,rfl,hl,by lia,by lia,zaK_ c4,q⟩)
  | (rename_i z n
     obtain ⟨⟨c1,c2,c3,c4⟩,q⟩:=h
     obtain ⟨t,rfl⟩:=rx
     obtain ⟨t',rfl⟩:=ry
     have hz:z.length=z.cps.toList.length:=by simp [Str.length]
     refine PySem.P.mul_str (by simp; lia) (fun h1 h2=>?_) (fun h1 h2=>?_) ?_
     ·rw [hz]
      have hn:0<n:=by lia
      have:(z.cps.toList.length:Int)*n≤2 ^ 63-1:=by
       have e:n=(n.toNat:Int):=by lia
       rw [e,← Int.natCast_mul]; lia
      have:=Int.le_ediv_of_mul_le hn this
      lia
     ·unfold Builtin.Str.tooLong
      rw [hz]
      have:=zaK_ c4
      exact decide_eq_false (by lia)
     ·by_cases h1:n<1
      ·rw [if_pos h1]
       have:n=0:=by lia
       subst this
       exact ⟨Nat.zero_le _,tx [],H,I.tok _,⟨_,rfl⟩,q⟩
      ·rw [if_neg h1]
       by_cases h2:(n == 1 || z.length == 0)=true
       ·rw [if_pos h2]
        have e:repL z.cps.toList n=z.cps.toList:=by
         unfold repL
         rw [Bool.or_eq_true] at h2
         rcases h2 with h2 | h2
         ·have:n=1:=by simpa using h2
          subst this; simp
         ·have:z.cps.toList=[]:=List.length_eq_zero_iff.mp (by rw [← hz]; simpa using h2)
          rw [this]; simp
        rw [e] at q
        refine ⟨tx z.cps.toList,H,I,⟨t,?_⟩,q⟩
        show Value.str z t=Value.str ⟨z.cps.toList.toArray⟩ t
        rw [← zaU_]
       ·rw [if_neg h2]
        refine ⟨?_,tx (repL z.cps.toList n),H,I.tok _,⟨s.toks,?_⟩,q⟩
        ·have e:(⟨List.foldl (fun x1 x2=>x1++x2) #[] (List.replicate n.toNat z.cps)⟩:Str).length=(List.replicate n.toNat z.cps.toList).flatten.length:=by
          rw [← zfi_]; simp [Str.length]
         rw [e,zff_]
         exact zaK_ (by rw [Nat.mul_comm]; exact c4)
        show Value.str _ _=Value.str _ _
        congr 1
        unfold repL
        rw [← zfi_])
section
variable {K:Fgg}{E:XK}{α β γ ρ S S' B B':Type}{F0 H0 F h H:Hp}{L L':List Sl}{e e1 e2:TE}{T:Ty α}{r:Mo α}{O:Own ρ}{t u:TS}{LS:S→List Sl}{LB:B→List Sl}
theorem zfW_:Op2 K mMulX E tyInt tyInt (fun i j=>.grd (IntMulOk i j) (.ok (i*j))) tyInt:=by
 rintro a b x y F H Q hs rfl rfl k
 obtain ⟨c,k⟩:=k.grd
 exact ⟨c,k.ok hs _ rfl⟩
noncomputable abbrev Pas:=Int×Option (List Nat)
noncomputable def passR (c:Pas) (v:V) (H:Hp):Prop:=∃ p,v=.ref p∧H p=some (.tup (match c.2 with | none=>[tx [100,101,97,108],.int c.1] | some s=>[tx [112,105,99,107],.int c.1,tx s]))
noncomputable abbrev tyPass:Ty Pas:=⟨passR,fun g ⟨p,e,h⟩=>⟨p,e,g _ _ h⟩⟩
theorem zat_:Imm tyPass:=fun g ⟨p,e,h⟩=>⟨p,e,g _ _ h⟩
theorem zew_ {r:Mo Int}(h:EvF K e E L r tyInt):EvF K (tTup (tCons (tC (tx [100,101,97,108])) (tCons e tNil))) E L (r.bind fun c=>.ok (c,none)) tyPass:=by
 intro σ F H Q hL hs q
 refine h σ F H _ hL hs (q.bind.imp fun c F1 H1 x1 k1 v hv=>⟨zaK_ (by show 2≤100000; decide),fun p hp=>?_⟩)
 cases hv
 exact k1 _ _ (Ext.new x1.2.1 hp) _ ⟨p,rfl,zL_⟩
theorem zd6_ {r:Mo Int}{r2:Mo (List Nat)}(h:EvF K e E L r tyInt) (h2:EvF K e2 E L r2 tyStr):EvF K (tTup (tCons (tC (tx [112,105,99,107])) (tCons e (tCons e2 tNil)))) E L (r.bind fun c=>r2.bind fun s=>.ok (c,some s)) tyPass:=by
 intro σ F H Q hL hs q
 refine h σ F H _ hL hs (q.bind.imp fun c F1 H1 x1 k1 v hv=>?_)
 refine h2 σ F1 H1 _ (hL.mono x1.1) x1.2.1 (k1.bind.imp fun s F2 H2 x2 k2 v2 hv2=>⟨zaK_ (by show 3≤100000; decide),fun p hp=>?_⟩)
 cases hv; cases hv2
 exact k2 _ _ (Ext.new x2.2.1 hp) _ ⟨p,rfl,zL_⟩
noncomputable def pTag (c:Pas):List Nat:=match c.2 with | none=>[100,101,97,108] | some _=>[112,105,99,107]
theorem zbk_ {r:Mo Pas}(h:EvF K e E L r tyPass):EvF K (tOp (mIx K) e (tC (.int 0))) E L (r.bind fun c=>.ok (pTag c)) tyStr:=by
 intro σ F H Q hL hs q
 refine h σ F H _ hL hs (q.bind.imp fun c F1 H1 x1 k1 v ⟨p,ev,hp⟩=>?_)
 subst ev
 refine ⟨_,.inr (.of (x1.2.1 _ _ hp)),?_⟩
 obtain ⟨c1,c2⟩:=c
 cases c2 with
 | none=>exact k1.ok x1.2.1 _ rfl
 | some s=>exact k1.ok x1.2.1 _ rfl
theorem zaj_ {r:Mo Pas}(h:EvF K e E L r tyPass):EvF K (tOp (mIx K) e (tC (.int 1))) E L (r.bind fun c=>.ok c.1) tyInt:=by
 intro σ F H Q hL hs q
 refine h σ F H _ hL hs (q.bind.imp fun c F1 H1 x1 k1 v ⟨p,ev,hp⟩=>?_)
 subst ev
 refine ⟨_,.inr (.of (x1.2.1 _ _ hp)),?_⟩
 obtain ⟨c1,c2⟩:=c
 cases c2 with
 | none=>exact k1.ok x1.2.1 _ rfl
 | some s=>exact k1.ok x1.2.1 _ rfl
theorem zbg_ {r:Mo Pas}(h:EvF K e E L r tyPass):EvF K (tOp (mIx K) e (tC (.int 2))) E L (r.bind fun c=>.opt c.2) tyStr:=by
 intro σ F H Q hL hs q
 refine h σ F H _ hL hs (q.bind.imp fun c F1 H1 x1 k1 v ⟨p,ev,hp⟩=>?_)
 subst ev
 obtain ⟨s,es,k1⟩:=k1.opt
 refine ⟨_,.inr (.of (x1.2.1 _ _ hp)),?_⟩
 obtain ⟨c1,c2⟩:=c
 cases (show c2=some s from es)
 exact k1.ok x1.2.1 _ rfl
theorem zdT_:EqT K tyPass 1 (fun a b=>decide (a=b)):=⟨by
 rintro ⟨a1,a2⟩ ⟨b1,b2⟩ x y H ⟨p,rfl,hp⟩ ⟨q,rfl,hq⟩
 have fl:∀ {x y:V},flatV x=true→flatV y=true→EqD K H 0 x y (eqV x y):=fun h1 h2=>.flat h1 h2
 have ei:eqV (.int a1) (.int b1)=decide (a1=b1):=rfl
 have es:∀ s t:List Nat,eqV (tx s) (tx t)=decide (s=t):=fun s t=>by
  have:=(zhG_ (K:=K)).eq (H:=H) (a:=s) (b:=t) rfl rfl
  exact zhr_.eq (H:=H) (a:=s) (b:=t) rfl rfl
 have key:∀ (xs ys:List V),H p=some (.tup xs)→H q=some (.tup ys)→(∀ (i:Nat) v,xs[i]?=some v→flatV v=true)→(∀ (i:Nat) v,ys[i]?=some v→flatV v=true) →
   EqD K H 1 (.ref p) (.ref q) ((List.range (min xs.length ys.length)).all (fun i=>match xs[i]?,ys[i]? with | some v,some w=>eqV v w | _,_=>true) && xs.length == ys.length):=by
  intro xs ys h1 h2 h3 h4
  refine .tup _ (.of h1) (.of h2) fun i x y hx hy=>?_
  simp only [hx,hy]
  exact fl (h3 i x hx) (h4 i y hy)
 have f2:∀ (t:List Nat) (c:Int),∀ (i:Nat) v,([tx t,.int c]:List V)[i]?=some v→flatV v=true:=by
  intro t c i v h
  match i with
  | 0=>cases h; rfl
  | 1=>cases h; rfl
  | n+2=>cases h
 have f3:∀ (t:List Nat) (c:Int) (s:List Nat),∀ (i:Nat) v,([tx t,.int c,tx s]:List V)[i]?=some v→flatV v=true:=by
  intro t c s i v h
  match i with
  | 0=>cases h; rfl
  | 1=>cases h; rfl
  | 2=>cases h; rfl
  | n+3=>cases h
 cases a2 with
 | none =>
  cases b2 with
  | none =>
   have:=key _ _ hp hq (f2 _ _) (f2 _ _)
   have e:decide (((a1,none):Pas)=(b1,none))=decide (a1=b1):=by rw [decide_eq_decide]; simp
   rw [e]
   simpa [List.range_succ,es,ei] using this
  | some t =>
   have:=key _ _ hp hq (f2 _ _) (f3 _ _ _)
   simpa [List.range_succ,es,ei] using this
 | some s =>
  cases b2 with
  | none =>
   have:=key _ _ hp hq (f3 _ _ _) (f2 _ _)
   simpa [List.range_succ,es,ei] using this
  | some t =>
   have:=key _ _ hp hq (f3 _ _ _) (f3 _ _ _)
   have e:decide (((a1,some s):Pas)=(b1,some t))=(decide (a1=b1) && decide (s=t)):=by rw [Bool.eq_iff_iff]; simp
   rw [e]
   simpa [List.range_succ,es,ei] using this⟩
end
end L2
namespace L2
open PySem PySem.Spec PyProof.Rows
structure KyT (κ:Type) where
 T:Ty κ
 key:κ→Key
 inj:∀ {a b},key a=key b→a=b
 of:∀ {a v H},T.R a v H→keyV v=some (key a)
noncomputable abbrev kInt:KyT Int:=⟨tyInt,Sum.inl,fun h=>by injection h,fun h=>by cases h; rfl⟩
section
variable {K:Fgg}{E:XK}{α β γ ρ κ S S' B B':Type}{F0 H0 F h H:Hp}{L L':List Sl}{e e1 e2:TE}{T:Ty α}{r:Mo α}{O:Own ρ}{t u:TS}{LS:S→List Sl}{LB:B→List Sl}{KY:KyT κ}
noncomputable abbrev DPr (KY:KyT κ) (T:Ty α) (H:Hp) (m:List (κ×α)) (kvs:List (Key×V)):Prop:=Paired (fun (q:κ×α) (w:Key×V)=>w.1=KY.key q.1∧T.R q.2 w.2 H) m kvs
theorem DPr.mono {m:List (κ×α)}{kvs:List (Key×V)}{H H':Hp}(g:Same H H') (h:DPr KY T H m kvs):DPr KY T H' m kvs:=zaz_ (fun _ _ r=>⟨r.1,T.mono g r.2⟩) h
theorem DPr.imm (i:Imm T) {m:List (κ×α)}{kvs:List (Key×V)}{H H':Hp}(g:Tups H H') (h:DPr KY T H m kvs):DPr KY T H' m kvs:=zaz_ (fun _ _ r=>⟨r.1,i g r.2⟩) h
noncomputable abbrev tyD (KY:KyT κ) (T:Ty α):Ty (List (κ×α)):=⟨fun m v H=>∃ p kvs,v=.ref p∧H p=some (.dK kvs)∧DPr KY T H m kvs,fun g ⟨p,kvs,e,h,q⟩=>⟨p,kvs,e,g _ _ h,q.mono g⟩⟩
noncomputable abbrev owD (KY:KyT κ) (T:Ty α):Own (List (κ×α)):=⟨fun m v F h=>∃ p kvs,v=.ref p∧h=one p (.dK kvs)∧DPr KY T F m kvs,tyD KY T,fun g ⟨p,vs,e,z,q⟩=>⟨p,vs,e,z,q.mono g⟩,
 fun d ⟨p,vs,e,z,q⟩=>⟨p,vs,e,zfa_ d _ _ (by rw [z]; exact zah_),q.mono zax_⟩,
 fun ⟨p,vs,e,z,q⟩ b xs y=>by rw [z] at y; unfold one at y; split at y<;>cases y⟩
theorem zcy_ (i:Imm T):ImmO (owD KY T):=fun g ⟨p,vs,e,z,q⟩=>⟨p,vs,e,z,q.imm i g⟩
variable [DecidableEq κ]
noncomputable def getA (m:List (κ×α)) (k:κ):Option α:=(m.find? fun q=>decide (q.1=k)).map (·.2)
noncomputable def putA (m:List (κ×α)) (k:κ) (v:α):List (κ×α):=if (m.any fun q=>decide (q.1=k))=true then m.map (fun q=>if q.1=k then (q.1,v) else q) else m++[(k,v)]
theorem zc5_ (a b:κ):decide (KY.key a=KY.key b)=decide (a=b):=by rw [decide_eq_decide]; exact ⟨KY.inj,fun h=>by rw [h]⟩
theorem zda_ {m:List (κ×α)}{kvs:List (Key×V)}(h:DPr KY T H m kvs) (k:κ):(getA m k=none∧valV kvs (KY.key k)=none)∨∃ a v,getA m k=some a∧valV kvs (KY.key k)=some v∧T.R a v H:=by
 induction h with
 | nil=>exact .inl ⟨rfl,rfl⟩
 | cons r t ih =>
  rename_i q w m kvs
  unfold getA valV at ih ⊢
  rw [List.find?_cons,List.find?_cons,r.1,zc5_]
  by_cases e:q.1=k
  ·rw [decide_eq_true e]; exact .inr ⟨_,_,rfl,rfl,r.2⟩
  ·rw [decide_eq_false e]; exact ih
theorem zhS_ {m:List (κ×α)}{kvs:List (Key×V)}(h:DPr KY T H m kvs) (k:κ):(kvs.any fun w=>decide (w.1=KY.key k))=m.any fun q=>decide (q.1=k):=by
 induction h with
 | nil=>rfl
 | cons r t ih=>rw [List.any_cons,List.any_cons,ih,r.1,zc5_]
theorem zg1_ {m m':List (κ×α)}{kvs kvs':List (Key×V)}(h:DPr KY T H m kvs) (h':DPr KY T H m' kvs'):DPr KY T H (m++m') (kvs++kvs'):=by
 induction h with
 | nil=>exact h'
 | cons r t ih=>exact .cons r ih
theorem zib_ {m:List (κ×α)}{kvs:List (Key×V)}(h:DPr KY T H m kvs) (k:κ) {a:α}{v:V}(hv:T.R a v H):DPr KY T H (m.map fun q=>if q.1=k then (q.1,a) else q) (kvs.map fun w=>if w.1=KY.key k then (w.1,v) else w):=by
 induction h with
 | nil=>exact .nil
 | cons r t ih =>
  rename_i q w m kvs
  rw [List.map_cons,List.map_cons]
  refine .cons ?_ ih
  by_cases e:q.1=k
  ·rw [if_pos e,if_pos (by rw [r.1,e])]; exact ⟨r.1,hv⟩
  ·rw [if_neg e,if_neg (fun z=>e (KY.inj (by rw [← r.1,z])))]; exact r
theorem zeo_ {m:List (κ×α)}{kvs:List (Key×V)}(h:DPr KY T H m kvs) (k:κ) {a:α}{v:V}(hv:T.R a v H):DPr KY T H (putA m k a) (putK kvs (KY.key k) v):=by
 unfold putA putK
 rw [zhS_ h]
 split
 ·exact zib_ h k hv
 ·exact zg1_ h (.cons ⟨rfl,hv⟩ .nil)
theorem zfC_ (KY:KyT κ) (T:Ty α):EvO K tDNewK E L (.ok []) (owD KY T):=by
 intro σ F H Q hL hs q p hp
 have q':OwnK (owD KY T) H Q [] F (upd H p (.dK [])):=q F _ (.heap hs (zb0_ hp _))
 refine q' (.ref p) (one p (.dK [])) (fun b z=>?_) (fun b=>?_) (fun b o z=>?_) ⟨p,[],rfl,rfl,.nil⟩
 ·unfold one at z; split at z
  ·rename_i e; rw [e]; exact hp
  ·exact absurd rfl z
 ·unfold one; split
  ·rename_i e; rw [e]; exact .inl (hs.free hp)
  ·exact .inr rfl
 ·unfold one at z; split at z
  ·rename_i e; rw [e]; cases z; exact zL_
  ·cases z
theorem zek_ (i:Nat) {m:List (κ×α)}(h:L[i]?=some (.ow (owD KY T) m)):EvF K (mVar i) E L (.ok m) (tyD KY T):=zbH_ i h
theorem at_d {x y:V}{R:Addr→List (Key×V)→Key→Prop}{m:List (κ×α)}{k:κ}(hx:(tyD KY T).R m x F) (hy:KY.T.R k y F) (hs:Same F H) (hr:∀ p kvs,H p=some (.dK kvs)→DPr KY T F m kvs→R p kvs (KY.key k)):atD x y H R:=by
 obtain ⟨p,kvs,rfl,hp,hd⟩:=hx
 unfold atD
 simp only
 rw [KY.of hy]
 exact ⟨kvs,hs _ _ hp,hr p kvs (hs _ _ hp) hd⟩
theorem zhO_ {r1:Mo (List (κ×α))}{r2:Mo κ}(h1:EvF K e1 E L r1 (tyD KY T)) (h2:EvF K e2 E L r2 KY.T):EvF K (mDGet e1 e2) E L (r1.bind fun m=>r2.bind fun k=>.opt (getA m k)) T:=by
 intro σ F H Q hL hs q
 refine h1 σ F H _ hL hs (q.bind.imp fun m F1 H1 x1 k1 v1 hv1=>?_)
 refine h2 σ F1 H1 _ (hL.mono x1.1) x1.2.1 (k1.bind.imp fun k F2 H2 x2 k2 v2 hv2=>?_)
 refine at_d ((tyD KY T).mono x2.1 hv1) hv2 x2.2.1 fun p kvs hp hd=>?_
 obtain ⟨a,ea,k3⟩:=k2.opt
 rcases zda_ hd k with ⟨z,_⟩ | ⟨a',v,z1,z2,z3⟩
 ·rw [z] at ea; cases ea
 ·rw [z1] at ea; cases ea
  exact ⟨v,z2,k3.ok x2.2.1 v z3⟩
theorem zeW_ (neg:Bool) {r1:Mo (List (κ×α))}{r2:Mo κ}(h2:EvF K e2 E L r2 KY.T) (h1:EvF K e1 E L r1 (tyD KY T)):EvF K (mDIn neg e2 e1) E L (r2.bind fun k=>r1.bind fun m=>.ok (if neg then !(getA m k).isSome else (getA m k).isSome)) tyBl:=by
 intro σ F H Q hL hs q
 refine h2 σ F H _ hL hs (q.bind.imp fun k F1 H1 x1 k1 v1 hv1=>?_)
 refine h1 σ F1 H1 _ (hL.mono x1.1) x1.2.1 (k1.bind.imp fun m F2 H2 x2 k2 v2 hv2=>?_)
 refine at_d hv2 (KY.T.mono x2.1 hv1) x2.2.1 fun p kvs hp hd=>?_
 have e:(valV kvs (KY.key k)).isSome=(getA m k).isSome:=by
  rcases zda_ hd k with ⟨z1,z2⟩ | ⟨a',v,z1,z2,z3⟩
  ·rw [z1,z2]; rfl
  ·rw [z1,z2]; rfl
 rw [e]
 exact k2.ok x2.2.1 _ rfl
theorem zbb_ {i:Nat}{σ:St}{m:List (κ×α)}(hL:Hold L σ F h) (hi:L[i]?=some (.ow (owD KY T) m)) (ok:Okk F0 H0 F h H) :
  ∃ p kvs,σ[i]?=some (some (.ref p))∧H p=some (.dK kvs)∧DPr KY T F m kvs∧∀ m' kvs',DPr KY T F m' kvs'→∃ h',Hold (L.set i (.ow (owD KY T) m')) σ F h'∧Okk F0 H0 F h' (upd H p (.dK kvs')):=by
 obtain ⟨o,h1,h2,e1,j,⟨v,e2,p,kvs,rfl,rfl,hr⟩,f⟩:=hL.at i hi
 subst e2
 have hp:h p=some (.dK kvs):=j.l _ _ zah_
 have h2p:h2 p=none:=by
  rcases j.dj p with z | z
  ·rw [zah_] at z; cases z
  ·exact z
 refine ⟨p,kvs,e1,ok.2.2.1 _ _ hp,hr,fun m' kvs' hr'=>?_⟩
 have d2:Dj (one p (.dK kvs')) h2:=fun q=>by
  unfold one; split
  ·rename_i z; rw [z]; exact .inr h2p
  ·exact .inl rfl
 have g:=f (.ow (owD KY T) m') (some (.ref p)) (one p (.dK kvs')) _ (zfF_ d2) ⟨_,rfl,p,kvs',rfl,rfl,hr'⟩
 rw [zay_ e1] at g
 refine ⟨_,g,zh3_ (h1':=h) (hr:=h) (h':=h) ok (by rw [hp]; exact Option.some_ne_none _) (fun xs z=>by cases z) _ fun b=>?_⟩
 unfold un one
 by_cases z:b=p
 ·simp only [if_pos z]
 ·simp only [if_neg z]
  rcases j b with ⟨_,c⟩ | ⟨a,c⟩
  ·exact c.symm
  ·rw [c,a]; unfold one; rw [if_neg z]
theorem zi9_ {i:Nat}{m:List (κ×α)}{r2:Mo κ}{k:α→κ→Mo (Out ρ B S)}(hi:L[i]?=some (.ow (owD KY T) m)) (hT:Imm T) (hKT:Imm KY.T) (he:EvF K e E L r T) (he2:EvF K e2 E L r2 KY.T) (hk:∀ a y,EvS K u E (L.set i (.ow (owD KY T) (putA m y a))) (k a y) LS LB O) :
  EvS K (tSeq (mDPut (mVar i) e2 e) u) E L (r.bind fun a=>r2.bind fun y=>.lim (m.length+1) (k a y)) LS LB O:=by
 intro F0 H0 σ F h H D hL ok fin
 show e σ H fun v H1=>mVar i σ H1 fun x H2=>e2 σ H2 fun y H3=>atD x y H3 fun a kvs k=>kvs.length<sizeLine∧u D σ (upd H3 a (.dK (putK kvs k v)))
 refine he σ (un F h) H _ (hL.froz ok.2.1) ok.thaw (z8_ (G:=F) ok _ (.inl rfl) fin fun a F1 H1 hra x1 v hv=>?_)
 obtain ⟨o,hs,ht⟩:=ok.back x1
 rw [hra] at fin
 have hL':=hL.mono hs
 have hv':=hT ht hv
 obtain ⟨p,kvs,e1,hp,hr,_⟩:=zbb_ hL' hi o
 refine zbj_ e1 ?_
 refine he2 σ (un _ h) H1 _ (hL'.froz o.2.1) o.thaw (z8_ (G:=F) o _ (.inl rfl) fin fun y F2 H2 hry x2 v2 hv2=>?_)
 obtain ⟨o',hs',ht'⟩:=o.back x2
 rw [hry] at fin
 obtain ⟨hz,fin⟩:=zb7_ (show Fin K (Mo.lim (m.length+1) (k a y)) E LS LB O F0 H0 D from fin)
 obtain ⟨p',kvs',e1',hp',hr',mm⟩:=zbb_ (hL'.mono hs') hi o'
 rw [e1] at e1'; cases e1'
 obtain ⟨h',a1,a2⟩:=mm (putA m y a) (putK kvs' (KY.key y) v) (zeo_ hr' y (T.mono hs' hv'))
 unfold atD
 simp only
 rw [KY.of hv2]
 refine ⟨kvs',hp',?_,hk a y F0 H0 σ _ h' _ D a1 a2 fin⟩
 have:=Paired.length hr'
 lia
end
end L2
namespace L2
open PySem PySem.Spec PyProof.Rows
section
variable {α κ:Type} [DecidableEq κ]
theorem zbJ_ (m:List (κ×α)) (k j:κ) (v:α):getA (putA m k v) j=if k=j then some v else getA m j:=by
 unfold getA putA
 by_cases ha:(m.any fun q=>decide (q.1=k))=true
 ·rw [if_pos ha]
  induction m with
  | nil=>cases ha
  | cons q m ih =>
   rw [List.map_cons,List.find?_cons,List.find?_cons]
   by_cases e:q.1=k
   ·rw [if_pos e]
    by_cases e2:k=j
    ·rw [if_pos e2]
     simp [e,e2]
    ·rw [if_neg e2]
     have:¬ q.1=j:=fun z=>e2 (by rw [← e,z])
     simp only [decide_eq_false this]
     by_cases hb:(m.any fun q=>decide (q.1=k))=true
     ·have:=ih hb
      rw [if_neg e2] at this
      exact this
     ·have e3:m.map (fun q=>if q.1=k then (q.1,v) else q)=m:=by
       rw [List.map_congr_left (g:=id) (fun x hx=>?_),List.map_id]
       have:¬ x.1=k:=fun z=>hb (List.any_eq_true.mpr ⟨x,hx,by simpa using z⟩)
       simp [this]
      rw [e3]
   ·rw [if_neg e]
    have hb:(m.any fun q=>decide (q.1=k))=true:=by
     rw [List.any_cons,decide_eq_false e,Bool.false_or] at ha; exact ha
    by_cases e2:q.1=j
    ·simp only [decide_eq_true e2]
     have:¬ k=j:=fun z=>e (by rw [e2,z])
     rw [if_neg this]
    ·simp only [decide_eq_false e2]
     exact ih hb
 ·rw [if_neg ha,List.find?_append]
  by_cases e2:k=j
  ·subst e2
   have:m.find? (fun q=>decide (q.1=k))=none:=by
    rw [List.find?_eq_none]
    intro x hx z
    exact ha (List.any_eq_true.mpr ⟨x,hx,z⟩)
   rw [this,if_pos rfl]
   simp
  ·rw [if_neg e2]
   cases m.find? (fun q=>decide (q.1=j)) with
   | some z=>rfl
   | none=>simp [e2]
end
section
variable {α:Type}
end
end L2
namespace L2
open PySem PySem.Spec PyProof.Rows
section
variable {K:Fgg}{E:XK}
end
end L2
namespace Att
open PySem PySem.W PySem.Calls PyProof.Rows
theorem zgh_ {ns:List Int}(h:WData.layableAll [WData.list (ns.map WData.int)]=true):∀ x∈ns,Builtin.Int.intBits x≤1048576:=by
 intro x hx
 have h1:=layableW_arg h _ (List.mem_singleton.mpr rfl)
 have h2:=layableW_item h1 (.int x) (List.mem_map.mpr ⟨x,hx,rfl⟩)
 exact PyData.bits_of_layable (layable_int h2)
theorem attach_callB {l:OpenLaw}{n:Nat}{q:Program}{loose:List Str}{XP:(Str→Option Value)→Heap→Prop}{YP:World→Heap→Prop}{d:DefRec}
  (hn:l.most=some n) (hdf:d.params.defaults=[])
  (call:∀ (w:World) (s₀ s₁:Shared) (mg mb:Str→Option Value) (fa:Addr) (o:Obj) (pm cd doc:Value) (a:Addr) (vs:List Value) (ns:List Int),
   (∀ x∈ns,Builtin.Int.intBits x≤1048576) →
   Ground q loose [] XP w s₀ mg mb s₁.heap→YP w s₁.heap →
   s₁.heap.get? fa=some o→o.data=.func (docDef d.name d.params d.body d.scope pm cd doc)→s₁.heap.CodeRec cd d.name→mg d.name=some (.ref fa) →
   s₁.heap.get? a=some { cls:=.type "list",data:=.seq vs.toArray }→IntsAre vs ns→ns.length≤n→s₁.gens=#[] →
   codeAny (model l.prog w) callerA (.call (.ref fa) ⟨[.ref a],[]⟩) (fun r s'=>r=.ok (.ret (.bool true))∧OldK s₁.heap s'.heap∧s'.os=s₁.os∧AllBare s'.gens) s₁) :
  WalkO q loose XP YP l.row.toRowW d [] (fun f vs=>PySem.call f vs):=by
 intro w s₀ s₁ mg mb G Y fa o pm cd doc dV kV ho hd hcd hD hmg hg args vals as hpre hlay hrd hwl hlo
 obtain rfl:dV=.none:=Dflts.none hD hdf
 obtain rfl:kV=.none:=Dflts.noKw hD
 obtain ⟨a,vs,ns,rfl,rfl,hobj,hints,hlen⟩:=zeZ_ hn hpre hwl
 refine enter_call (codeAny_mono (call w s₀ s₁ mg mb fa o pm cd doc a vs ns (zgh_ hlay) G Y ho (fd_plain hd) hcd hmg hobj hints hlen hg) fun r s' hq=>?_)
 obtain ⟨rfl,h2,h3,h4⟩:=hq
 exact ⟨.inl ⟨.bool true,.bool true,[],rfl,fun _=>rfl,.bool true,zfc_ l _,fun _=>⟨List.Pairwise.nil,fun _ hm=>(nomatch hm)⟩⟩,h2,h3,h4⟩
end Att
namespace L2
open PySem PySem.Spec PyProof.Rows
theorem zgo_ {l:PySem.W.OpenLaw}{n k:Nat}{q:Program}{loose:List Str}{XP:(Str→Option Value)→Heap→Prop}{YP:World→Heap→Prop}{d:DefRec}{K:Params→Fgg}{CX:World→CXT}{sp:World→Sp}{x:Str}
  (hn:l.most=some n) (hn2:n≤sizeLine) (hdf:d.params.defaults=[]) (hr:Room k callerA)
  (hY:∀ (w:World) (h:Heap),YP w h→(K w.params).In h)
  (F:∀ (w:World) (mg:Str→Option Value) (fa:Addr) (h:Heap),(K w.params).In h→h.Ns mainGlobals mg→mg d.name=some (.ref fa) →
   ∃ fd:FuncData,(∀ (s:Shared) (u:Value),BindsTo s fd ⟨[u],[]⟩ [(x,u)]) ∧
    ∀ base:Heap,(K w.params).In base→base.Ns mainGlobals mg→FnOk l.prog w (K w.params) mg base (CX w) k fa fd [x] (sp w))
  (hsp:∀ (w:World) (H:Hp) (a:Addr) (ns:List Int),ns.length≤n→(∀ x∈ns,Builtin.Int.intBits x≤1048576)→Only H→SqL (K w.params) H a (ns.map V.int)→sp w [.ref a] H (fun v _=>v=.bl true) fun _ _ _=>False)
  (hCX:∀ (w:World) (H:Hp) (s:Shared) (e:Value) (s':Shared),CX w [] H s (fun _ _ _=>False) e s'→False) :
  PySem.W.WalkO q loose XP YP l.row.toRowW d [] (fun f vs=>PySem.call f vs):=by
 refine Att.attach_callB hn hdf fun w s₀ s₁ mg mb fa o pm cd doc a vs ns hbits G Y ho hd hcd hmg hobj hints hlen hg=>?_
 have KX:=hY w _ Y
 obtain ⟨fd,hb,hF⟩:=F w mg fa _ KX G.T.g hmg
 exact zf3_ KX G.T.g G.T.b G.T.builtins G.T.nolimit hg hobj hints (Nat.le_trans hlen hn2) hr hF hb (fun H hO hS=>hsp w H a ns hlen hbits hO hS) fun H e s'=>hCX w H s₁ e s'
noncomputable abbrev BitsOk (ns:List Int):Prop:=∀ x∈ns,Builtin.Int.intBits x≤1048576
end L2
namespace L2
open PySem PySem.Spec PyProof.Rows PySem.W
section
variable {α β:Type}
variable {lt:Nat→Nat→Bool}{n:Nat}
end
section
variable {prog:Program}{w:World}{A:Around}{E:Value→Shared→Prop}{s:Shared}{vs:List Value}{lt:Nat→Nat→Bool}
end
end L2
namespace L2
open PySem PySem.Spec PyProof.Rows PySem.W
section
variable {prog:Program}{w:World}{A:Around}{E:Value→Shared→Prop}{s:Shared}{Q:Bool→Shared→Prop}
end
section
variable {X:Cx}
end
end L2
namespace L2
open PySem PySem.Spec PyProof.Rows PySem.W
section
variable {α β:Type}
end
end L2
namespace L2
open PySem PySem.Spec PyProof.Rows PySem.W
section
variable {α β γ:Type}{K:Fgg}{E:XK}
end
end L2
universe u
namespace L2
open PySem PySem.Spec PyProof.Rows
section
variable {α γ:Type}{K:Fgg}{E:XK}{L:List Sl}{T:Ty α}{e:TE}
end
section
variable {α:Type}{K:Fgg}{E:XK}{L:List Sl}{T:Ty α}{F h H F0 H0:Hp}{ρ B S:Type}{LS:S→List Sl}{LB:B→List Sl}{O:Own ρ}
theorem zeV_ {α:Type u}{l:List α}{i:Nat}{o:α}(h:l[i]?=some o):l.set i o=l:=by
 apply List.ext_getElem?
 intro j
 rw [List.getElem?_set]
 have hlt:=(List.getElem?_eq_some_iff.mp h).1
 by_cases e:i=j
 ·subst e; rw [if_pos rfl,if_pos hlt,h]
 ·rw [if_neg e]
end
end L2
namespace L2
open PySem PySem.Spec PyProof.Rows PySem.W
section
variable {prog:Program}{w:World}{A:Around}{E:Value→Shared→Prop}{s:Shared}{T:String}{rr dd:Addr}{n:Nat}{PP:Nat→Value→Prop}{OK:Heap→Prop}
end
section
variable {prog:Program}{w:World}{A:Around}{E:Value→Shared→Prop}{s:Shared}{lt:Nat→Nat→Bool}
end
section
variable {X:Cx}
end
section
variable {α β γ κ:Type}{K:Fgg}{E:XK}
theorem zjd_ (x:Int) (F:Hp):(kInt).T.R x (kV (kInt.key x)) F:=rfl
end
end L2
namespace L2
open PySem PySem.Spec PyProof.Rows PySem.W
section
variable {prog:Program}{w:World}{A:Around}{E:Value→Shared→Prop}{s:Shared}{z ti to i j:Addr}{f g:List Addr}{n1 n2 k:Nat}{P1 P2:Nat→Value→Prop}{S1 S2:Nat→Heap→Prop}{a b:Value}
end
end L2
namespace L2
open PySem PySem.Spec PyProof.Rows PySem.W
section
variable {prog:Program}{w:World}{A:Around}{E:Value→Shared→Prop}{s:Shared}
end
section
variable {X:Cx}{elts:List Expr}{kk:Nat}{tpos:Pos}
end
section
variable {K:Fgg}{E:XK}{α β:Type}{L:List Sl}{T:Ty α}
end
end L2
namespace L2
open PySem PySem.Spec PyProof.Rows
section
variable {K:Fgg}{E:XK}{α β γ ρ S B:Type}{F0 H0 F h H:Hp}{L:List Sl}{e:TE}{T:Ty α}{r:Mo α}{O:Own ρ}{u:TS}{LS:S→List Sl}{LB:B→List Sl}
theorem Hold.atM:∀ {L:List Sl}{σ:St}{F h:Hp}(i:Nat) {s:Sl},Hold L σ F h→L[i]?=some s →
  ∃ o h1 h2,σ[i]?=some o∧Jn h1 h2 h∧s.P o F h1∧∀ F' s' o' h1' h',Same F F'→Jn h1' h2 h'→s'.P o' F' h1'→Hold (L.set i s') (σ.set i o') F' h'
 | [],_,_,_,_,_,_,e=>by cases e
 | s::L,[],_,_,_,_,q,_=>q.elim
 | s::L,o::σ,F,h,0,t,⟨h1,h2,j,p,r⟩,e=>by
  cases e
  exact ⟨o,h1,h2,rfl,j,p,fun F' s' o' h1' h' g j' p'=>⟨h1',h2,j',p',r.mono g⟩⟩
 | s::L,o::σ,F,h,i+1,t,⟨h1,h2,j,p,r⟩,e=>by
  obtain ⟨o1,k1,k2,e1,j1,p1,f⟩:=Hold.atM i r (by simpa using e)
  have d1:Dj h1 k1:=fun p=>by
   rcases j.dj p with a | a
   ·exact .inl a
   ·exact .inr (j1.l.free a)
  have d2:Dj h1 k2:=fun p=>by
   rcases j.dj p with a | a
   ·exact .inl a
   ·exact .inr (j1.r.free a)
  refine ⟨o1,k1,un h1 k2,by simpa using e1,fun p=>?_,p1,fun F' s' o' k1' h' g j' p'=>?_⟩
  ·rcases j p with ⟨a,b⟩ | ⟨a,b⟩
   ·rcases j1 p with ⟨c,d⟩ | ⟨c,d⟩
    ·refine .inl ⟨c,?_⟩; unfold un; rw [a,b,d]
    ·refine .inr ⟨?_,by rw [b,d]⟩; unfold un; rw [a,c]
   ·refine .inl ⟨j1.l.free a,?_⟩
    have:k2 p=none:=j1.r.free a
    unfold un; rw [b]
    cases h1 p with
    | none=>rw [this]
    | some u=>rfl
  ·have dd:Dj k1' k2:=fun p=>by
    rcases j' p with ⟨a,b⟩ | ⟨a,b⟩
    ·exact .inl a
    ·right; unfold un at a
     cases z:h1 p with
     | none=>rw [z] at a; exact a
     | some u=>rw [z] at a; cases a
   refine ⟨h1,un k1' k2,fun p=>?_,p.mono g,f F' s' o' k1' _ g (zfF_ dd) p'⟩
   rcases j' p with ⟨a,b⟩ | ⟨a,b⟩
   ·unfold un at b ⊢
    cases z:h1 p with
    | none=>rw [z] at b; exact .inl ⟨rfl,by rw [b,a]⟩
    | some u =>
     rw [z] at b
     refine .inr ⟨?_,b⟩
     rw [a]
     rcases d2 p with y | y
     ·rw [y] at z; cases z
     ·exact y
   ·unfold un at a
    cases z:h1 p with
    | some u=>rw [z] at a; cases a
    | none =>
     rw [z] at a
     refine .inl ⟨rfl,?_⟩
     unfold un; rw [b]
     cases k1' p with
     | none=>exact a.symm
     | some u=>rfl
structure PutC (F2 H2 h H0 k k' F3 H3:Hp):Prop where
 ff:Same F2 F3
 fh:Same F3 H3
 ol:Same (less H2 k) H3
 nw:∀ q,F2 q=none→F3 q≠none→H2 q=none∨k q≠none
 kh:Same k' H3
 dj:Dj F3 k'
 fr:∀ q,k q=none→k' q≠none→h q=none∧H0 q=none
theorem zgp_ {O1:Own α}{i:Nat}{σ:St}{x:α}(hL:Hold L σ F h) (hi:L[i]?=some (.ow O1 x)) (ok:Okk F0 H0 F h H) :
  ∃ v k,σ[i]?=some (some v)∧O1.O x v F k∧Same k H∧Same k h∧Dj F k∧∀ {β:Type}(O2:Own β) (x':β) (v':V) (k' F3 H3:Hp),PutC F H h H0 k k' F3 H3→O2.O x' v' F3 k' →
   ∃ h',Hold (L.set i (.ow O2 x')) (σ.set i (some v')) F3 h'∧Okk F0 H0 F3 h' H3:=by
 obtain ⟨o,k,hr,e1,j,⟨v,e2,ho⟩,f⟩:=hL.atM i hi
 subst e2
 obtain ⟨o1,o2,o3,o4,o5⟩:=ok
 have kh:Same k h:=j.l
 have rh:Same hr h:=j.r
 have kne:∀ q,k q≠none→h q≠none:=fun q z w=>z (kh.free w)
 refine ⟨v,k,e1,ho,kh.trans o3,kh,fun q=>?_,?_⟩
 ·rcases o2 q with z | z
  ·exact .inl z
  ·exact .inr (kh.free z)
 intro β O2 x' v' k' F3 H3 P hv'
 have rk:∀ {q o},hr q=some o→k q=none:=fun {q o} z=>by
  rcases j.dj q with y | y
  ·exact y
  ·rw [y] at z; cases z
 have dj:Dj k' hr:=fun q=>by
  by_cases w:k' q=none
  ·exact .inl w
  ·right
   by_cases w2:k q=none
   ·exact rh.free (P.fr q w2 w).1
   ·rcases j.dj q with y | y
    ·exact absurd y w2
    ·exact y
 have rH:∀ {q o},hr q=some o→H3 q=some o:=fun {q o} z=>P.ol q o (by rw [zV_ (rk z)]; exact o3 _ _ (rh _ _ z))
 refine ⟨un k' hr,f F3 (.ow O2 x') (some v') k' _ P.ff (zfF_ dj) ⟨_,rfl,hv'⟩,⟨o1.1.trans P.ff,P.fh,fun q o z=>?_,fun q a b=>?_⟩,fun q=>?_,fun q o z=>?_,fun q z=>?_,fun q xs z=>?_⟩
 ·have hq:h q=none:=by
   cases w:h q with
   | none=>rfl
   | some s=>have:=o4 q (by rw [w]; exact Option.some_ne_none _); rw [this] at z; cases z
  exact P.ol q o (by rw [zV_ (kh.free hq)]; exact o1.2.2.1 _ _ z)
 ·by_cases w:F q=none
  ·rcases P.nw q w b with y | y
   ·exact o1.2.2.1.free y
   ·exact o4 q (kne q y)
  ·exact o1.2.2.2 q a w
 ·unfold un
  cases w:k' q with
  | some s =>
   left
   rcases P.dj q with y | y
   ·exact y
   ·rw [y] at w; cases w
  | none =>
   cases y:hr q with
   | none=>exact .inr rfl
   | some s =>
    left
    have hq:h q=some s:=rh _ _ y
    have Fq:F q=none:=by
     rcases o2 q with d | d
     ·exact d
     ·rw [d] at hq; cases hq
    by_cases w3:F3 q=none
    ·exact w3
    ·rcases P.nw q Fq w3 with d | d
     ·rw [o3 _ _ hq] at d; cases d
     ·exact absurd (rk y) d
 ·unfold un at z
  cases w:k' q with
  | some s=>rw [w] at z; rw [P.kh q s w]; exact z
  | none=>rw [w] at z; exact rH z
 ·unfold un at z
  cases w:k' q with
  | some s =>
   by_cases y:k q=none
   ·exact (P.fr q y (by rw [w]; exact Option.some_ne_none _)).2
   ·exact o4 q (kne q y)
  | none =>
   rw [w] at z
   exact o4 q fun y=>z (rh.free y)
 ·unfold un at z
  cases w:k' q with
  | some s=>rw [w] at z; refine O2.notup hv' q xs ?_; rw [w]; exact z
  | none=>rw [w] at z; exact o5 q xs (rh _ _ z)
theorem PutC.same {k k':Hp}{H3:Hp}(ok:Okk F0 H0 F h H) (kh:Same k h) (a:Same k' H3) (b:∀ q,k q=none→k' q=none→H3 q=H q) (c:∀ q,k q=none→k' q≠none→F q=none∧h q=none∧H0 q=none∧H q=k' q):PutC F H h H0 k k' F H3:=by
 have dj:Dj F k':=fun q=>by
  by_cases w:k' q=none
  ·exact .inr w
  ·left
   by_cases y:k q=none
   ·exact (c q y w).1
   ·rcases ok.2.1 q with d | d
    ·exact d
    ·exact absurd (kh.free d) y
 have ol:∀ q o,k q=none→H q=some o→H3 q=some o:=fun q o y z=>by
  by_cases w:k' q=none
  ·rw [b q y w]; exact z
  ·obtain ⟨_,_,_,e⟩:=c q y w
   rw [z] at e
   exact a _ _ e.symm
 refine ⟨Same.refl _,fun q o z=>?_,fun q o z=>?_,fun q y z=>absurd y z,a,dj,fun q y z=>⟨(c q y z).2.1,(c q y z).2.2.1⟩⟩
 ·have y:k q=none:=by
   rcases ok.2.1 q with d | d
   ·rw [d] at z; cases z
   ·exact kh.free d
  exact ol q o y (ok.1.2.1 _ _ z)
 ·unfold less at z
  split at z
  ·rename_i y; exact ol q o y z
  ·cases z
theorem PutC.one {p:Addr}{o o':HO}(ok:Okk F0 H0 F h H) (kh:Same (one p o) h):PutC F H h H0 (one p o) (one p o') F (upd H p o'):=by
 have ne:∀ q,L2.one p o q=none→q≠p:=fun q z w=>by rw [w,zah_] at z; cases z
 refine PutC.same ok kh (fun q s z=>?_) (fun q z1 z2=>zv_ (ne q z1)) fun q z1 z2=>?_
 ·unfold L2.one at z
  split at z
  ·rename_i w; unfold upd; rw [if_pos w]; exact z
  ·cases z
 ·unfold L2.one at z2
  rw [if_neg (ne q z1)] at z2
  exact absurd rfl z2
end
noncomputable abbrev tyV0:Ty V:=⟨fun a v _=>v=a,fun _ h=>h⟩
section
variable {K:Fgg}{E:XK}{α β γ ρ S B:Type}{F0 H0 F h H:Hp}{L:List Sl}{e:TE}{T:Ty α}{r:Mo α}{O:Own ρ}{u:TS}{LS:S→List Sl}{LB:B→List Sl}{p:Addr}{vs:List V}
end
end L2
namespace L2
open PySem PySem.Spec PyProof.Rows
section
variable {α β γ:Type}
variable {O:Own α}
theorem zev_ {F h1 h:Hp}(d:Dj F h) (s:Same h1 h):Same (un F h1) (un F h):=fun p o e=>by
 unfold un at e ⊢
 cases z:F p with
 | some w=>rw [z] at e; exact e
 | none=>rw [z] at e; exact s _ _ e
end
section
variable {K:Fgg}{E:XK}{α β γ ρ S B:Type}{F0 H0 F h H:Hp}{L:List Sl}{e te ei:TE}{T:Ty α}{r:Mo α}{Or:Own ρ}{u:TS}{LS:S→List Sl}{LB:B→List Sl}{σ:St}
noncomputable def Foc (F0 H0:Hp) (σ:St) (h F1:Hp) (O':Own β) (y:β) (u:V) (LF:β→List Sl):Prop :=
 ∀ F2 H2,Same F1 F2→Okk F0 H0 F2 h H2→∃ k,O'.O y u F2 k∧Same k h ∧
  ∀ y' k' F3 H3,PutC F2 H2 h H0 k k' F3 H3→O'.O y' u F3 k'→∃ h',Hold (LF y') σ F3 h'∧Okk F0 H0 F3 h' H3
theorem zfN_ {O:Own α}{x:α}{i:Nat}(hL:Hold L σ F h) (hi:L[i]?=some (.ow O x)):∃ v,σ[i]?=some (some v)∧Foc F0 H0 σ h F O x v (fun x'=>L.set i (.ow O x')):=by
 obtain ⟨o,_,_,e1,_,⟨v,e2,_⟩,_⟩:=hL.at i hi
 subst e2
 refine ⟨v,e1,fun F2 H2 s ok=>?_⟩
 obtain ⟨v',k,e1',ho,_,kh,_,g⟩:=zgp_ (hL.mono s) hi ok
 rw [e1] at e1'; cases e1'
 refine ⟨k,ho,kh,fun y' k' F3 H3 a b=>?_⟩
 obtain ⟨h',a1,a2⟩:=g O y' v k' F3 H3 a b
 rw [zay_ e1] at a1
 exact ⟨h',a1,a2⟩
theorem Foc.part {O:Own α}{O':Own β}{F1:Hp}{y:α}{z:β}{w u:V}{LF:α→List Sl}{put:β→α}(f:Foc F0 H0 σ h F1 O y u LF)
  (pt:∀ F2 k,Same F1 F2→Same k h→O.O y u F2 k→∃ k1 k2,Jn k1 k2 k∧O'.O z w F2 k1∧∀ z' k1' k' F3,Same F2 F3→O'.O z' w F3 k1'→Jn k1' k2 k'→O.O (put z') u F3 k'):Foc F0 H0 σ h F1 O' z w (fun z'=>LF (put z')):=by
 intro F2 H2 s ok
 obtain ⟨k,ho,kh,g⟩:=f F2 H2 s ok
 obtain ⟨k1,k2,j,ho',pp⟩:=pt F2 k s kh ho
 refine ⟨k1,ho',j.l.trans kh,fun z' k1' F3 H3 P hz=>?_⟩
 have d:Dj k1' k2:=fun q=>by
  by_cases w1:k1' q=none
  ·exact .inl w1
  ·right
   by_cases w2:k1 q=none
   ·exact (j.r.trans kh).free (P.fr q w2 w1).1
   ·rcases j.dj q with y | y
    ·exact absurd y w2
    ·exact y
 have k2h:∀ {q o},k2 q=some o→k1 q=none∧H3 q=some o:=fun {q o} e=>by
  have y1:k1 q=none:=by
   rcases j.dj q with y1 | y1
   ·exact y1
   ·rw [y1] at e; cases e
  exact ⟨y1,P.ol q o (by rw [zV_ y1]; exact ok.2.2.1 _ _ (kh _ _ (j.r _ _ e)))⟩
 refine g (put z') (un k1' k2) F3 H3 ⟨P.ff,P.fh,fun q o e=>?_,(fun q a b=>(P.nw q a b).imp id fun z w=>z (j.l.free w)),fun q o e=>?_,fun q=>?_,fun q a1 a2=>?_⟩ (pp z' k1' _ F3 P.ff hz (zfF_ d))
 ·unfold less at e
  split at e
  ·rename_i y; exact P.ol q o (by rw [zV_ (j.l.free y)]; exact e)
  ·cases e
 ·unfold un at e
  cases y:k1' q with
  | some s=>rw [y] at e; rw [P.kh q s y]; exact e
  | none=>rw [y] at e; exact (k2h e).2
 ·unfold un
  cases y:k1' q with
  | some s =>
   rcases P.dj q with d | d
   ·exact .inl d
   ·rw [d] at y; cases y
  | none =>
   cases e:k2 q with
   | none=>exact .inr rfl
   | some s =>
    left
    have hq:h q=some s:=kh _ _ (j.r _ _ e)
    have Fq:F2 q=none:=by
     rcases ok.2.1 q with d | d
     ·exact d
     ·rw [d] at hq; cases hq
    by_cases w3:F3 q=none
    ·exact w3
    ·rcases P.nw q Fq w3 with d | d
     ·rw [ok.2.2.1 _ _ hq] at d; cases d
     ·exact absurd (k2h e).1 d
 ·unfold un at a2
  have y2:k2 q=none:=j.r.free a1
  have y:k1' q≠none:=fun y=>by rw [y] at a2; exact a2 y2
  exact P.fr q (j.l.free a1) y
noncomputable def EvPt (K:Fgg) (te:TE) (E:XK) (L:List Sl) (i:Nat) (O:Own α) (O':Own β) (r:Mo (β×(β→α))):Prop :=
 ∀ F0 H0 σ F h H (Q:VK),Hold L σ F h→Okk F0 H0 F h H→After K r E (un F h) H (fun yp G1 H1=>∀ u,Foc F0 H0 σ h (less G1 h) O' yp.1 u (fun z=>L.set i (.ow O (yp.2 z)))→Q u H1)→te σ H Q
theorem zd2_ {O:Own α}{x:α}{i:Nat}(hi:L[i]?=some (.ow O x)):EvPt K (mVar i) E L i O O (.ok (x,fun z=>z)):=by
 intro F0 H0 σ F h H Q hL ok q
 obtain ⟨o,hs,_⟩:=ok.back (Ext.refl ok.thaw)
 obtain ⟨v,ev,fc⟩:=zfN_ (F0:=F0) (H0:=H0) (hL.mono hs) hi
 exact zbj_ ev (q.ok ok.thaw v fc)
theorem zeJ_ {O:Own β}{i:Nat}{r0:Mo (List α×(List α→β))}{k:β→Mo (Out ρ B S)}(hp:EvPt K te E L i O (owL T) r0) (hT:Imm T) (he:EvF K e E L r T) (hk:∀ x',EvS K u E (L.set i (.ow O x')) (k x') LS LB Or) :
  EvS K (tSeq (tDrop (tBM K "list" rAppend te (tCons e tNil))) u) E L (r0.bind fun yp=>r.bind fun a=>.lim (yp.1.length+1) (k (yp.2 (yp.1++[a])))) LS LB Or:=by
 intro F0 H0 σ F h H D hL ok fin
 show te σ H fun x H1=>tyV K "list" x H1∧tCons e tNil σ H1 fun xs H2=>rAppend x xs H2 (fun _ H3=>u D σ H3)
 refine hp F0 H0 σ F h H _ hL ok (z8_ (G:=F) ok _ (.inl rfl) fin fun yp G1 H1 hr0 x1 u0 fc=>?_)
 obtain ⟨o1,hs1,_⟩:=ok.back x1
 rw [hr0] at fin
 obtain ⟨k0,⟨p,vs,rfl,rfl,_⟩,kh,_⟩:=fc _ H1 (Same.refl _) o1
 have hp0:h p=some (.lst vs):=kh _ _ zah_
 refine ⟨.inl ⟨rfl,vs,.of (o1.2.2.1 _ _ hp0)⟩,?_⟩
 refine he σ (un (less G1 h) h) H1 _ ((hL.mono hs1).froz o1.2.1) o1.thaw (z8_ (G:=F) o1 _ (.inl rfl) fin fun a G2 H2 hra x2 v hv=>?_)
 obtain ⟨o2,hs2,ht2⟩:=o1.back x2
 rw [hra] at fin
 obtain ⟨hz,fin⟩:=zb7_ (show Fin K (Mo.lim (yp.1.length+1) (k (yp.2 (yp.1++[a])))) E LS LB Or F0 H0 D from fin)
 obtain ⟨k1,⟨p',vs',e',rfl,pr⟩,kh',g⟩:=fc _ H2 hs2 o2
 cases e'
 have ev:vs'=vs:=by
  have:=kh' _ _ zah_
  rw [hp0] at this
  injection this with this
  injection this with this
  exact this.symm
 subst ev
 obtain ⟨h',a1,a2⟩:=g (yp.1++[a]) (one p (.lst (vs'++[v]))) _ (upd H2 p (.lst (vs'++[v]))) (PutC.one o2 kh') ⟨p,_,rfl,rfl,pr.append (.cons (hT ht2 hv) .nil)⟩
 exact ⟨p,vs',v,rfl,rfl,o2.2.2.1 _ _ hp0,by rw [← pr.len]; lia,hk _ F0 H0 σ _ h' _ D a1 a2 fin⟩
end
end L2
namespace L2
open PySem PySem.Spec PyProof.Rows
section
variable {X:Cx}{e value o:Expr}{es:List Expr}{f m x:Str}{p pos pos' apos:Pos}{ta tv:TE}{t:TA}{C:Addr}{k:Nat}{ps:List Str}{sp:Sp}
end
section
variable {α β γ:Type}
theorem dj_l {F h1 h2 h:Hp}(d:Dj F h) (j:Jn h1 h2 h):Dj F h1:=fun p=>by
 rcases d p with z | z
 ·exact .inl z
 ·exact .inr (j.l.free z)
theorem dj_r {F h1 h2 h:Hp}(d:Dj F h) (j:Jn h1 h2 h):Dj F h2:=fun p=>by
 rcases d p with z | z
 ·exact .inl z
 ·exact .inr (j.r.free z)
noncomputable abbrev owAt (u:V) (O:Own α):Own α:=⟨fun a v F h=>v=u∧O.O a v F h,O.fr,fun g q=>⟨q.1,O.mono g q.2⟩,fun d q=>O.frz d q.2,fun q=>O.notup q.2⟩
end
section
variable {K:Fgg}{E:XK}{α β γ δ ρ S B:Type}{F0 H0 F h H:Hp}{L:List Sl}{e te ei:TE}{T:Ty α}{r:Mo α}{Or:Own ρ}{u:TS}{LS:S→List Sl}{LB:B→List Sl}{σ:St}{C:Addr}{ns:List Str}{f:Str}{i n:Nat}
theorem zhw_ {O:Own α}{O':Own β}{w:V}{r:Mo (β×(β→α))}(hp:EvPt K te E L i O (owAt w O') r):EvPt K te E L i O O' r:=by
 intro F0 H0 σ F h H Q hL ok q
 refine hp F0 H0 σ F h H _ hL ok (q.imp fun yp G1 H1 x1 k1 u fc=>k1 u fun F2 H2 s o2=>?_)
 obtain ⟨k,⟨e,ho⟩,kh,g⟩:=fc F2 H2 s o2
 exact ⟨k,ho,kh,fun y' k' F3 H3 P hy=>g y' k' F3 H3 P ⟨e,hy⟩⟩
end
end L2
namespace L2
open PySem PySem.Spec PyProof.Rows
section
variable {K:Fgg}{E:XK}{α β γ δ ρ ρ' S B:Type}{F0 H0 F h H:Hp}{L:List Sl}{e te ei:TE}{T:Ty α}{r:Mo α}{Or:Own ρ}{t u:TS}{LS:S→List Sl}{LB:B→List Sl}{σ:St}{C:Addr}{ns:List Str}{f m:Str}{i n:Nat}
noncomputable def FinM (K:Fgg) (r:Mo ρ) (E:XK) (F0 H0:Hp) (kk:ρ→Hp→Hp→Hp→Prop):Prop:=match r with
 | .ok a=>∀ F h H,Okk F0 H0 F h H→kk a F h H
 | .ex c=>∀ F h H,Okk F0 H0 F h H→E (.ref (gA K c)) none H
 | .no=>False
noncomputable abbrev owRM (w:V) (O2:Own β) (Or:Own ρ):Own (ρ×β):=⟨fun r v F h=>∃ h1 h2,Jn h1 h2 h∧Or.O r.1 v F h1∧O2.O r.2 w F h2,⟨fun r v H=>Or.fr.R r.1 v H,fun g q=>Or.fr.mono g q⟩,
 fun g ⟨h1,h2,j,a,b⟩=>⟨h1,h2,j,Or.mono g a,O2.mono g b⟩,
 fun d ⟨h1,h2,j,a,b⟩=>Or.fr.mono (zev_ d j.l) (Or.frz (dj_l d j) a),
 fun ⟨h1,h2,j,a,b⟩ p xs z=>by
  rcases j p with ⟨_,y⟩ | ⟨_,y⟩
  ·rw [y] at z; exact O2.notup b p xs z
  ·rw [y] at z; exact Or.notup a p xs z⟩
noncomputable def CtM (K:Fgg) (O:Own α) (O2:Own β) (Q:Cs γ) (g:α→γ→Mo (ρ×β)) (Or:Own ρ):Sp:=fun vs H R E=>∃ F h x c w ws,vs=w::ws∧Same F H∧Dj F h∧Same h H∧O.O x w F h∧Q.R c ws F ∧
 FinM K (g x c) E F (less H h) fun r F' h' H'=>∀ v,(owRM w O2 Or).O r v F' h'→R v H'
theorem zfk_ {k:Hp}(ok:Okk F0 H0 F h H) (s:Same k h):Okk F0 H0 F k H:=by
 refine ⟨ok.1,fun p=>?_,s.trans ok.2.2.1,fun p z=>ok.2.2.2.1 p fun y=>z (s.free y),fun p xs z=>ok.2.2.2.2 p xs (s _ _ z)⟩
 rcases ok.2.1 p with z | z
 ·exact .inl z
 ·exact .inr (s.free z)
theorem zas_ {h:Hp}(p:Addr) (z:h p≠none):less H h p=none:=by
 unfold less
 cases y:h p with
 | none=>exact absurd y z
 | some w=>rfl
theorem zbG_:Same (less H h) H:=fun p o z=>by
 unfold less at z
 split at z
 ·exact z
 ·cases z
theorem zgq_ (hs:Same F H) (dj:Dj F h) (hh:Same h H) (nt:∀ p xs,h p≠some (.tup xs)):Okk F (less H h) F h H:=by
 refine ⟨⟨Same.refl _,hs,zbG_,fun p a b=>absurd a b⟩,dj,hh,fun p z=>zas_ p z,nt⟩
noncomputable def fnMU (r:Mo (Out (Unit×β) Unit β)):Mo (Unit×β):=r.bind fun o=>match o with | .rt a=>.ok a | .nx x=>.ok ((),x) | _=>.no
theorem zel_ {O:Own α}{Q:Cs γ}{ss:γ→List Sl}{x:α}{c:γ}{w:V}{ws:List V}(m:Nat) (hC:CsS Q ss) (hO:O.O x w F h) (hc:Q.R c ws F):Hold (.ow (owAt w O) x::(ss c++List.replicate m .dead)) (some w::(ws.map some++List.replicate m none)) F h :=
 ⟨h,fun _=>none,fun _=>.inr ⟨rfl,rfl⟩,⟨w,rfl,rfl,hO⟩,(hC hc).hold m⟩
theorem zho_ {t:XK→TS}{O:Own α}{O2:Own β}{Q:Cs γ}{ss:γ→List Sl}{g:α→γ→Mo (Out (Unit×β) Unit β)}{N:List Str}{LS:V→β→List Sl}(n m:Nat) (hn:CsN Q n) (hm:N.length-(n+1)=m) (hC:CsS Q ss) (hLS:∀ w x,(LS w x)[0]?=some (.ow (owAt w O2) x))
  (hb:∀ w x c E,EvS K (t E) E (.ow (owAt w O) x::(ss c++List.replicate m .dead)) (g x c) (LS w) (fun _:Unit=>[]) (owRM w O2 (owF tyNon))) :
  ∀ vs H R E,CtM K O O2 Q (fun x c=>fnMU (g x c)) (owF tyNon) vs H R E→t E { nx:=fun _ H'=>R .non H',rt:=R } (start N vs) H:=by
 rintro vs H R E ⟨F,h,x,c,w,ws,rfl,hs,dj,hh,hO,hc,q⟩
 have hstart:start N (w::ws)=some w::(ws.map some++List.replicate m none):=by
  unfold start
  rw [List.length_cons,hn hc,hm]; rfl
 rw [hstart]
 refine hb w x c E F (less H h) _ F h H _ (zel_ m hC hO hc) (zgq_ hs dj hh (O.notup hO)) ?_
 cases e:g x c with
 | no=>simp only [fnMU,e] at q; exact q
 | ex cc=>simp only [fnMU,e] at q; exact q
 | ok o =>
  simp only [fnMU,e] at q
  cases o with
  | nx s =>
   intro σ F' h' H' hL ok
   obtain ⟨o,k,hr,e1,j,⟨v,e2,e3,ho⟩,_⟩:=hL.at 0 (hLS w s)
   subst e3
   exact q F' k H' (zfk_ ok j.l) .non ⟨fun _=>none,k,fun _=>.inl ⟨rfl,rfl⟩,⟨fun _=>rfl,rfl⟩,ho⟩
  | bk s=>exact q.elim
  | ct s=>exact q.elim
  | rt a=>exact fun v F' h' H' ok hv=>q F' h' H' ok v hv
end
end L2
namespace L2
open PySem PySem.Spec PyProof.Rows
section
variable {K:Fgg}{E:XK}{α β γ δ ρ ρ' S B:Type}{F0 H0 F h H:Hp}{L:List Sl}{e te ei:TE}{T:Ty α}{r:Mo α}{Or:Own ρ}{t u:TS}{LS:S→List Sl}{LB:B→List Sl}{σ:St}{C:Addr}{ns:List Str}{f m:Str}{i n:Nat}
theorem zdJ_ {O:Own β}{r0:Mo (List α×(List α→β))}{k:β→Mo (Out ρ B S)}(hp:EvPt K te E L i O (owL T) r0) (hT:Imm T) (he:EvF K e E L r T) (hk:∀ x',EvS K u E (L.set i (.ow O x')) (k x') LS LB Or) :
  EvS K (tSeq (tDrop (tBM K "list" rAppend te (tCons e tNil))) u) E L (r0.bind fun yp=>r.bind fun a=>.lim (yp.1.length+1) ((Mo.ok (yp.2 (yp.1++[a]))).bind k)) LS LB Or:=zeJ_ hp hT he hk
end
end L2
namespace L2
open PySem PySem.Spec PyProof.Rows
section
variable {K:Fgg}{E:XK}{γ:Type}{L:List Sl}{C:Addr}{ns:List Str}
end
end L2
namespace L2
open PySem PySem.Spec PyProof.Rows
end L2
namespace L2
open PySem PySem.Spec PyProof.Rows
section
variable {X:Cx}
end
section
variable {K:Fgg}{E:XK}{α β:Type}{L:List Sl}{e:TE}{T:Ty α}
theorem za2_ {r:Mo (Option α)}(h:EvF K e E L r (tyOpt T)):EvF K e E L (r.bind fun o=>Mo.opt o) T:=by
 intro σ F H Q hL hs q
 refine h σ F H _ hL hs (q.bind.imp fun o F1 H1 x k v hv=>?_)
 cases o with
 | none=>exact k.elim
 | some a=>exact k.ok x.2.1 v hv.1
end
end L2
namespace L2
open PySem PySem.Spec PyProof.Rows
end L2
namespace L2
open PySem PySem.Spec PyProof.Rows
section
variable {prog:Program}{w:World}{A:Around}{E:Value→Shared→Prop}{s:Shared}
end
section
variable {X:Cx}
end
section
variable {K:Fgg}{E:XK}{α β γ ρ S B:Type}{F H:Hp}{L:List Sl}{e:TE}{T:Ty α}
end
end L2
namespace L2
open PySem PySem.Spec PyProof.Rows
section
variable {α β γ:Type}
end
section
variable {K:Fgg}{E:XK}{α β γ δ ρ ρ' S B:Type}{F0 H0 F h H:Hp}{L:List Sl}{e te ei:TE}{T:Ty α}{r:Mo α}{Or:Own ρ}{t u:TS}{LS:S→List Sl}{LB:B→List Sl}{σ:St}{C:Addr}{ns:List Str}{f m:Str}{i n w:Nat}
end
end L2
namespace L2
open PySem PySem.Spec PyProof.Rows
section
variable {K:Fgg}{E:XK}{α β γ δ ρ ρ' S B:Type}{F0 H0 F h H:Hp}{L:List Sl}{e te ei tc:TE}{T:Ty α}{r:Mo α}{Or:Own ρ}{Or':Own ρ'}{t u:TS}{LS:S→List Sl}{LB:B→List Sl}{σ:St}{C:Addr}{ns:List Str}{f m:Str}{i n w j:Nat}
end
end L2
namespace L2
open PySem PySem.Spec PyProof.Rows
section
variable {K:Fgg}{E:XK}{α β γ δ ρ ρ' S B:Type}{F0 H0 F h H:Hp}{L:List Sl}{e te ei tc:TE}{T:Ty α}{r:Mo α}{Or:Own ρ}{Or':Own ρ'}{t u:TS}{LS:S→List Sl}{LB:B→List Sl}{σ:St}{C:Addr}{ns:List Str}{f m:Str}{i n w j:Nat}
theorem zhB_ {κ:Type} [DecidableEq κ] {KY:KyT κ}{O:Own β}{mm:Mo (List (κ×α)×(List (κ×α)→β))}{r2:Mo κ}{e2:TE}{k:β→Mo (Out ρ B S)}(hp:EvPt K te E L i O (owD KY T) mm) (hT:Imm T) (hKT:Imm KY.T) (he:EvF K e E L r T) (he2:EvF K e2 E L r2 KY.T) (hk:∀ x',EvS K u E (L.set i (.ow O x')) (k x') LS LB Or) :
  EvS K (tSeq (mDPut te e2 e) u) E L (r.bind fun a=>mm.bind fun yp=>r2.bind fun y=>.lim (yp.1.length+1) ((Mo.ok (yp.2 (putA yp.1 y a))).bind k)) LS LB Or:=by
 intro F0 H0 σ F h H D hL ok fin
 show e σ H fun v H1=>te σ H1 fun x H2=>e2 σ H2 fun y H3=>atD x y H3 fun a kvs k=>kvs.length<sizeLine∧u D σ (upd H3 a (.dK (putK kvs k v)))
 refine he σ (un F h) H _ (hL.froz ok.2.1) ok.thaw (z8_ (G:=F) ok _ (.inl rfl) fin fun a F1 H1 hra x1 v hv=>?_)
 obtain ⟨o,hs,ht⟩:=ok.back x1
 rw [hra] at fin
 have hL':=hL.mono hs
 have hv':=hT ht hv
 refine hp F0 H0 σ _ h H1 _ hL' o (z8_ (G:=F) o _ (.inl rfl) fin fun yp G1 H2 hr0 x2 u0 fc=>?_)
 obtain ⟨o1,hs1,_⟩:=o.back x2
 rw [hr0] at fin
 refine he2 σ (un (less G1 h) h) H2 _ ((hL'.mono hs1).froz o1.2.1) o1.thaw (z8_ (G:=F) o1 _ (.inl rfl) fin fun y F2 H3 hry x3 v2 hv2=>?_)
 obtain ⟨o2,hs2,ht2⟩:=o1.back x3
 rw [hry] at fin
 obtain ⟨hz,fin⟩:=zb7_ (show Fin K (Mo.lim (yp.1.length+1) (k (yp.2 (putA yp.1 y a)))) E LS LB Or F0 H0 D from fin)
 obtain ⟨k1,⟨p,kvs,rfl,rfl,pr⟩,kh',g⟩:=fc _ H3 hs2 o2
 obtain ⟨h',a1,a2⟩:=g (putA yp.1 y a) (one p (.dK (putK kvs (KY.key y) v))) _ (upd H3 p (.dK (putK kvs (KY.key y) v))) (PutC.one o2 kh') ⟨p,_,rfl,rfl,zeo_ pr y (T.mono (hs1.trans hs2) hv')⟩
 unfold atD
 simp only
 rw [KY.of hv2]
 refine ⟨kvs,o2.2.2.1 _ _ (kh' _ _ zah_),?_,hk _ F0 H0 σ _ h' _ D a1 a2 fin⟩
 have:=Paired.length pr
 lia
end
end L2
namespace L2
open PySem PySem.Spec PyProof.Rows
section
variable {K:Fgg}{E:XK}{L:List Sl}
end
section
variable {K:Fgg}{E:XK}{α β ρ B:Type}{F0 H0 F h H:Hp}{L:List Sl}{te:TE}{Or:Own ρ}{tb:TS}{LB:B→List Sl}{i w:Nat}
end
end L2
namespace L2
open PySem PySem.Spec PyProof.Rows
section
variable {K:Fgg}{E:XK}{α β γ δ ρ ρ' S B:Type}{F0 H0 F h H:Hp}{L:List Sl}{e te ei tc:TE}{ta:TA}{T:Ty α}{r:Mo α}{Or:Own ρ}{Or':Own ρ'}{t u:TS}{LS:S→List Sl}{LB:B→List Sl}{σ:St}{C:Addr}{ns:List Str}{f m:Str}{i n w j:Nat}
end
end L2
namespace L2
open PySem PySem.Spec PyProof.Rows
section
variable {K:Fgg}{E:XK}{α κ:Type} [DecidableEq κ] {KY:KyT κ}{L:List Sl}{e1 e2 e3:TE}{T:Ty α}
end
section
variable {K:Fgg}{E:XK}{α β ρ ρ' B:Type}{L:List Sl}{te:TE}{Or:Own ρ}{Or':Own ρ'}{LB:B→List Sl}{C:Addr}{ns:List Str}{m:Str}{i w:Nat}
end
end L2
namespace L2
open PySem PySem.Spec PyProof.Rows
section
variable {K:Fgg}{E:XK}{α β γ δ ρ ρ' S B:Type}{F0 H0 F h H:Hp}{L:List Sl}{e te te2 tc:TE}{ta:TA}{T:Ty α}{r:Mo α}{Or:Own ρ}{Or':Own ρ'}{t u:TS}{LS:S→List Sl}{LB:B→List Sl}{σ:St}{C:Addr}{ns:List Str}{f m:Str}{i n w j:Nat}
end
theorem atF {K:Fgg}{E:XK}{α:Type}{e:TE}{r:Mo α}{T:Ty α}(L:List Sl) (h:EvF K e E L r T):EvF K e E L r T:=h
end L2
namespace L2
open PySem PySem.Spec PyProof.Rows
noncomputable def Itv (K:Fgg) (a:Addr) (n:Nat):It :=
 ⟨fun i H=>∃ xs,SqL K H a xs∧xs.length=n∧i<n,fun i H x H'=>H'=H∧∀ xs,SqL K H a xs→xs[n-1-i]?=some x,fun i H=>n≤i⟩
theorem zf5_ {P:Program}{w:World}{K:Fgg}{tg:Expr}(a it:Addr) (n:Nat):Turn P w K tg (Itv K a n) [it] it (fun i h=>i≤n∧h.IsRevIter it a ((n:Int)-1-(i:Int))) where
 mem:=by simp
 obj:=fun i h st b hb=>by
  have e:b=it:=by simpa using hb
  subst e
  obtain ⟨_,o,e,c,d⟩:=st
  exact ⟨o,e,fun v z=>by rw [d] at z; cases z⟩
 keep:=fun i h h' st k=>⟨st.1,st.2.at fun o e=>k it (by simp) o e⟩
 item:=by
  intro X hP hw hK hc i pins s σ H E I hf st hg
  subst hP hw hK
  obtain ⟨xs,hq,hn,hi⟩:=hg
  obtain ⟨its,rv,p,hz⟩:=I.list hq
  obtain ⟨x,hx⟩:∃ x,xs[n-1-i]?=some x:=⟨_,List.getElem?_eq_getElem (by lia)⟩
  obtain ⟨u,hu,ru⟩:=rv.get hx
  obtain ⟨f0,f1,f2,f3,f4,f5⟩:=hf it (by simp)
  have e:(n:Int)-1-(i:Int)=((n-1-i:Nat):Int):=by lia
  have e2:((n-1-i:Nat):Int)-1=(n:Int)-1-((i+1:Nat):Int):=by lia
  have hit:=st.2
  rw [e] at hit
  refine wpAny_pyNext_rev_item hit p.isList (x:=u) (by simpa using hu) fun h' st' sb=>?_
  rw [e2] at st'
  have I1:Inv X pins σ H { s with heap:=h' }:=I.turned (t':=s.toks) (fun b o hb e=>(sb.2 b hb).trans e) f0 f1 f3 f4 f5
  obtain ⟨o,eo,c,d⟩:=id st'
  exact ⟨u,rfl,zhA_ (s:={ s with heap:=h' }) eo c d (by decide) ⟨x,H,I1,ru,⟨rfl,fun ys hy=>by rw [I.list_inj hy hq]; exact hx⟩,⟨hi,st'⟩,fun b hb=>(hf b hb).1⟩⟩
 done:=by
  intro X hP hw hK hc i pins s σ H E I hf st hg
  subst hP hw hK
  obtain ⟨f0,f1,f2,f3,f4,f5⟩:=hf it (by simp)
  have hi:n≤i:=hg
  have ei:i=n:=Nat.le_antisymm st.1 hi
  subst ei
  have e:(i:Int)-1-(i:Int) = -1:=by lia
  have hit:=st.2
  rw [e] at hit
  exact wpAny_pyNext_rev_end (I.ok.hd hc) hit fun h' eb=>⟨rfl,I.turned (t':=s.toks) (fun b o hb e=>eb b o hb e) f0 f1 f3 f4 f5⟩
 self:=fun _ _ _ _ _ st h=>wpAny_pyIter_revIter st.2 h
noncomputable def iRev (K:Fgg) (ta:TA):TI:=fun σ H R=>ta σ H fun vs H1=>match vs with
 | [.ref a]=>∃ xs,SqL K H1 a xs∧R (Itv K a xs.length) H1
 | _=>False
section
variable {X:Cx}{tg:Expr}
theorem zja_ {a:Expr}{ta:TA}{p pos:Pos}(hm:Gb X.mg "reversed") (ha:PA X [a] ta) (hg:Gl X "reversed" := by rfl) (hs:starEach [a] X.env=[(false,eval a X.env)]:=by rfl) :
  PI X tg (.Call (.Name "reversed" p) [a] [] pos) (iRev X.K ta):=by
 intro pins s σ H R I h
 refine Call_ (zef_ I hg hm (u:=.type "reversed") (by rfl) (PyProof.Rows.callWith_type1 (thn (ha pos pins s σ H _ I h) fun us s1 ⟨vs,H1,I1,r1,q1⟩=>?_) hs rfl))
 dsimp only at q1
 split at q1
 ·rename_i l
  obtain ⟨xs,hq,q⟩:=q1
  cases r1 with
  | cons r rr =>
   cases rr
   cases r
   obtain ⟨its,rv,p,hz⟩:=I1.list hq
   refine call_reversed_list p.isList ?_
   have hl:(its.toArray.size:Int)-1=(xs.length:Int)-1-((0:Nat):Int):=by
    have:=rv.length
    simp; lia
   have hit:Heap.IsRevIter (s1.heap.push (revObj l ((its.toArray.size:Int)-1))) s1.heap.objs.size l ((xs.length:Int)-1-((0:Nat):Int)):=⟨_,Heap.get?_push_size _ rfl,rfl,by rw [← hl]; rfl⟩
   refine wpAny_pyIter_revIter (s:={ s1 with heap:=s1.heap.push (revObj l ((its.toArray.size:Int)-1)) }) hit ?_
   refine ⟨s1.heap.objs.size,[s1.heap.objs.size],_,_,H1,rfl,I1.kept (t':=s1.toks) fun b o e=>Heap.get?_push_of_some _ e,zf5_ l _ xs.length,⟨Nat.zero_le _,hit⟩,fun b hb=>?_,q⟩
   have e:b=s1.heap.objs.size:=by simpa using hb
   subst e
   exact I1.fpOk (Nat.le_refl _) (I1.hok.fresh (Nat.le_refl _))
 ·exact q1.elim
end
section
variable {K:Fgg}{E:XK}{α β:Type}{L:List Sl}{T:Ty α}
theorem ziZ_ {r:Mo (List α)}{ta:TA}(h:EvA K ta E L r (csLast (tyL T))):EvI K (iRev K ta) E L (r.bind fun l=>.ok l.reverse) T:=by
 intro σ F H R hL hs q
 refine h σ F H _ hL hs (q.bind.imp fun l F1 H1 x1 k1 vs hv=>?_)
 obtain ⟨v,rfl,p,us,rfl,hp,hr⟩:=hv
 have hlen:l.length=us.length:=hr.len
 refine ⟨us,.of (x1.2.1 _ _ hp),k1.ok x1.2.1 _ ⟨fun i H x hH hx=>?_,fun H hH=>?_⟩⟩
 ·obtain ⟨hi,_⟩:=List.getElem?_eq_some_iff.mp hx
  rw [List.length_reverse] at hi
  rw [List.getElem?_reverse hi] at hx
  rcases hr.get (l.length-1-i) with ⟨a,_⟩ | ⟨y,u,a,b,c⟩
  ·rw [a] at hx; cases hx
  ·rw [a] at hx; cases hx
   refine ⟨⟨us,.of (hH _ _ hp),rfl,by lia⟩,?_⟩
   rintro v H' ⟨rfl,z⟩ F hF hF'
   have e:=z us (.of (hH _ _ hp))
   rw [← hlen,b] at e; cases e
   exact ⟨F,.refl hF',T.mono hF c⟩
 ·show us.length≤_
  rw [List.length_reverse,hlen]; exact Nat.le_refl _
end
noncomputable def mSetD (td ty tz:TE):TE:=fun σ H Q=>td σ H fun x H1=>(match x with | .ref a=>∃ kvs,H1 a=some (.dK kvs) | _=>False)∧ty σ H1 fun y H2=>tz σ H2 fun z H3=>atD x y H3 fun a kvs k =>
 match valV kvs k with | some v=>Q v H3 | none=>kvs.length<sizeLine∧Q z (upd H3 a (.dK (putK kvs k z)))
section
variable {X:Cx}{o e f:Expr}{apos cpos:Pos}{td ty tz:TE}
theorem zf9_ (hu:X.A.units+60<cLine) (ho:PE X o td) (he:PE X e ty) (hf:PE X f tz) (m:M2 X o "setdefault" apos e f cpos:=by exact ⟨rfl,rfl,rfl,rfl⟩):PE X (.Call (.Attribute o "setdefault" apos) [e,f] [] cpos) (mSetD td ty tz):=by
 intro pins s σ H Q I h
 refine wpAny_Call_method m.base m.few m.line PySem.F.plainAttrs_dict PySem.F.slot_dict_setdefault PySem.F.type_dict_setdefault (thn (ho pins s σ H _ I h) fun u s1 ⟨x,H1,I1,rx,hx,q1⟩=>?_)
 cases x with
 | ref a =>
  obtain ⟨kvs0,hd0⟩:=hx
  obtain rfl:u=Value.ref a:=rx
  obtain ⟨t1,t2,_⟩:=zhJ_ I1 (.inl ⟨kvs0,.inl hd0⟩)
  refine ⟨t1,t2,?_⟩
  rw [m.trees]
  refine Calls.callWith_builtin rfl (Calls.evalArgs_plain (Calls.spliced_cons (thn (he pins s1 σ H1 _ I1 q1) fun iv s2 ⟨y,H2,I2,ry,q2⟩ =>
   Calls.spliced_cons (thn (hf pins s2 σ H2 _ I2 q2) fun fv s3 ⟨z,H3,I3,rz,q3⟩=>Calls.spliced_nil ?_))))
  obtain ⟨a',kvs,k,ea,rfl,hd,q⟩:=zer_ q3
  cases ea
  obtain ⟨hz,hsys,vs,rel,dd⟩:=zgO_ I3.hok hd
  have hzv:vs.length≤sizeLine:=by rw [← rel.length]; exact hz
  have rk:=rel.val k
  refine call_meetsIn PySem.F.slot_dict_setdefault dd.typeIs PySem.F.entry_dict_setdefault (PySem.F.args_dict_setdefault_3 _ _ _) (kt_meets_setdefault (mixKind X.prog X.w) a (zgD_ ry) hsys fv) ⟨vs,dd,hzv,fun v hv=>?_,fun hn h' dd' hs=>?_⟩
  ·rw [hv] at rk
   cases g:valV kvs k with
   | none=>rw [g] at rk; exact rk.elim
   | some v0=>rw [g] at rk q; exact ⟨v0,H3,I3.tok _,rk,q⟩
  ·rw [hn] at rk
   cases g:valV kvs k with
   | some v0=>rw [g] at rk; exact rk.elim
   | none =>
    rw [g] at q
    have hl:(putK kvs k z).length≤sizeLine:=by have:=zaX_ kvs k z; have:=q.1; lia
    have hq:∃ q,h'.get? a=some q:=let ⟨q,_,_,hq,_⟩:=dd'; ⟨q,hq⟩
    exact ⟨z,_,zdZ_ I3 (by rw [hd]; exact True.intro) hs hq (zha_ hl hsys (rel.put k rz) dd'),rz,q.2⟩
 | _=>exact hx.elim
end
section
variable {K:Fgg}{E:XK}{α β γ ρ κ S B:Type}{F0 H0 F h H:Hp}{L:List Sl}{T:Ty α}{O:Own ρ}{t u:TS}{LS:S→List Sl}{LB:B→List Sl}{KY:KyT κ} [DecidableEq κ]
noncomputable def sdA (m:List (κ×α)) (k:κ) (d:α):α×List (κ×α):=match getA m k with | some a=>(a,m) | none=>(d,putA m k d)
theorem zit_ {i:Nat}{m:List (κ×α)}{rk:Mo κ}{rv:Mo α}{rc:α×List (κ×α)→Mo α}{ek ev ec:TE}{R:R2}{g:α→α→Mo Bool}{r1 r2:α×List (κ×α)→Mo (Out ρ B S)}
  (hi:L[i]?=some (.ow (owD KY T) m)) (hT:Imm T) (hKT:Imm KY.T) (hk:EvF K ek E L rk KY.T) (hv:EvF K ev E L rv T) (hop:Op2 K R E T T g tyBl)
  (hc:∀ q:α×List (κ×α),EvF K ec E (L.set i (.ow (owD KY T) q.2)) (rc q) T) (h1:∀ q:α×List (κ×α),EvS K t E (L.set i (.ow (owD KY T) q.2)) (r1 q) LS LB O) (h2:∀ q:α×List (κ×α),EvS K u E (L.set i (.ow (owD KY T) q.2)) (r2 q) LS LB O) :
  EvS K (mIfS (mTest (tOp R (mSetD (mVar i) ek ev) ec)) t u) E L (rk.bind fun k=>rv.bind fun d=>.lim (m.length+1) ((Mo.ok (sdA m k d)).bind fun q=>(rc q).bind fun c=>(g q.1 c).bind fun b=>if b then r1 q else r2 q)) LS LB O:=by
 intro F0 H0 σ F h H D hL ok fin
 obtain ⟨p,kvs,e1,hp,hr,_⟩:=zbb_ hL hi ok
 show mVar i σ H fun x H1=>(match x with | .ref a=>∃ kvs,H1 a=some (.dK kvs) | _=>False)∧ek σ H1 fun y H2=>ev σ H2 fun z H3=>atD x y H3 fun a kvs k =>
  match valV kvs k with
  | some v=>ec σ H3 fun w H4=>R v w H4 fun x H5=>match x with | .bl k=>br k (t D σ H5) (u D σ H5) | _=>False
  | none=>kvs.length<sizeLine∧ec σ (upd H3 a (.dK (putK kvs k z))) fun w H4=>R z w H4 fun x H5=>match x with | .bl k=>br k (t D σ H5) (u D σ H5) | _=>False
 refine zbj_ e1 ⟨⟨kvs,hp⟩,?_⟩
 refine hk σ (un F h) H _ (hL.froz ok.2.1) ok.thaw (z8_ (G:=F) ok _ (.inl rfl) fin fun y F1 H1 hry x1 v1 hv1=>?_)
 obtain ⟨o,hs,ht⟩:=ok.back x1
 rw [hry] at fin
 have hL':=hL.mono hs
 have hv1':=hKT ht hv1
 refine hv σ (un _ h) H1 _ (hL'.froz o.2.1) o.thaw (z8_ (G:=F) o _ (.inl rfl) fin fun d F2 H2 hrd x2 v2 hv2=>?_)
 obtain ⟨o',hs',ht'⟩:=o.back x2
 rw [hrd] at fin
 obtain ⟨hz,fin⟩:=zb7_ (show Fin K (Mo.lim (m.length+1) ((Mo.ok (sdA m y d)).bind fun q=>(rc q).bind fun c=>(g q.1 c).bind fun b=>if b then r1 q else r2 q)) E LS LB O F0 H0 D from fin)
 have hL2:=hL'.mono hs'
 obtain ⟨p',kvs',e1',hp',hr',mm⟩:=zbb_ hL2 hi o'
 rw [e1] at e1'; cases e1'
 have hv2':=hT ht' hv2
 have tail:∀ (q:α×List (κ×α)) (va:V) (h' H':Hp),sdA m y d=q→Hold (L.set i (.ow (owD KY T) q.2)) σ (less F2 h) h'→Okk F0 H0 (less F2 h) h' H'→T.R q.1 va (less F2 h) →
   ec σ H' fun w H3=>R va w H3 fun x H4=>match x with | .bl k=>br k (t D σ H4) (u D σ H4) | _=>False:=by
  intro q va h' H' hq hLq okq hva
  have fq:Fin K ((rc q).bind fun c=>(g q.1 c).bind fun b=>if b then r1 q else r2 q) E LS LB O F0 H0 D:=by rw [← hq]; exact fin
  refine hc q σ (un _ h') H' _ (hLq.froz okq.2.1) okq.thaw (z8_ (G:=F) okq _ (.inl rfl) fq fun c F3 H3 hrc x3 w hw=>?_)
  obtain ⟨o3,hs3,ht3⟩:=okq.back x3
  rw [hrc] at fq
  have fq':Fin K ((g q.1 c).bind fun b=>if b then r1 q else r2 q) E LS LB O F0 H0 D:=fq
  refine hop q.1 c va w _ H3 _ o3.1.2.1 (T.mono hs3 hva) (hT ht3 hw) (z8_ (G:=F) o3 _ (.inr rfl) fq' fun b F4 H4 hrb x4 v4 hv4=>?_)
  cases hv4
  rw [hrb] at fq'
  have f4:Fin K (if b then r1 q else r2 q) E LS LB O F0 H0 D:=fq'
  have L4:=(hLq.mono hs3).mono x4.1
  have o4:=o3.cold x4
  refine ⟨fun z=>?_,fun z=>?_⟩
  ·rw [if_pos z] at f4; exact h1 q F0 H0 σ _ h' H4 D L4 o4 f4
  ·rw [if_neg (by rw [z]; decide)] at f4; exact h2 q F0 H0 σ _ h' H4 D L4 o4 f4
 unfold atD
 simp only
 rw [KY.of (KY.T.mono hs' hv1')]
 refine ⟨kvs',hp',?_⟩
 rcases zda_ hr' y with ⟨g1,g2⟩ | ⟨a,va,g1,g2,g3⟩
 ·rw [g2]
  obtain ⟨h',a1,a2⟩:=mm (putA m y d) (putK kvs' (KY.key y) v2) (zeo_ hr' y hv2')
  refine ⟨?_,tail (d,putA m y d) v2 h' _ (by unfold sdA; rw [g1]) a1 a2 hv2'⟩
  have:=Paired.length hr'
  lia
 ·rw [g2]
  refine tail (a,m) va h H2 (by unfold sdA; rw [g1]) ?_ o' g3
  show Hold (L.set i (.ow (owD KY T) m)) σ (less F2 h) h
  rw [zeV_ hi]; exact hL2
end
end L2
namespace L2
open PySem PySem.Spec PyProof.Rows
section
variable {X:Cx}{pins:Pnn}{σ:St}{H:Hp}{s:Shared}{d:Addr}{o:Obj}{kvs:List (Key×V)}
theorem zgd_ {P:Program}{w:World}{h:Heap}{a:Addr}{u v v':HO}(hd:H d=some v) (h1:∀ x,v≠.own x) (h2:∀ xs,v≠.tup xs) (q:ObjOk P w H h a u):ObjOk P w (upd H d v') h a u :=
 q.stay (fun _ _ _ e=>e) (fun b e=>by rw [zv_ (fun z=>by rw [z,hd] at e; cases e; exact h1 _ rfl)]; exact e) fun b xs e=>by rw [zv_ (fun z=>by rw [z,hd] at e; cases e; exact h2 _ rfl)]; exact e
theorem Inv.frzD (I:Inv X pins σ H s) (hd:H d=some (.dK kvs)) (ho:s.heap.get? d=some o):Inv X pins σ (upd H d (.frz o (.dK kvs))) s :=
 I.write (x:=d) (e:=d) (o:=.frz o (.dK kvs)) (t':=s.toks) (h':=s.heap) (by rw [hd]; exact True.intro) (.inl rfl) (fun _ _ _ e=>e) ⟨o,ho⟩ ⟨ho,zgd_ hd (fun _ z=>by cases z) (fun _ z=>by cases z) (I.hok d _ hd)⟩
noncomputable def Zf (X:Cx) (d:Addr):Prop:=∀ o u,X.H₀ d≠some (.frz o u)
theorem Inv.thawD (I:Inv X pins σ H s) (hd:H d=some (.frz o (.dK kvs))) (hn:Zf X d):Inv X pins σ (upd H d (.dK kvs)) s:=by
 have ne:∀ b u,H b=u→u≠some (.frz o (.dK kvs))→b≠d:=fun b u e z y=>z (by rw [← e,y]; exact hd)
 refine ⟨I.ok,I.os,I.bare,⟨I.base.keep,I.base.slot,fun b q e n hx=>?_,I.base.there,fun b xs e=>?_,fun b q u e=>?_,fun b ps e=>?_⟩,I.loc,I.cell,?_,fun x c e=>?_,fun p hp=>?_,fun a u e=>?_,I.len⟩
 ·have:=I.base.free b q e n hx
  rw [zv_ (ne b _ this (by simp))]; exact this
 ·have:=I.base.tups b xs e
  rw [zv_ (ne b _ this (fun z=>by cases z))]; exact this
 ·have:=I.base.frzs b q u e
  rw [zv_ (fun z=>hn q u (by rw [← z]; exact e))]; exact this
 ·obtain ⟨m,e'⟩:=I.base.tbls b ps e
  exact ⟨m,by rw [zv_ (ne b _ e' (fun z=>by cases z))]; exact e'⟩
 ·rw [zv_ (ne _ _ I.free (by simp))]; exact I.free
 ·have:=I.freeC x c e
  rw [zv_ (ne _ _ this (by simp))]; exact this
 ·obtain ⟨a1,a2,a3⟩:=I.pin p hp
  exact ⟨a1,by rw [zv_ (ne _ _ a2 (by simp))]; exact a2,a3⟩
 ·by_cases z:a=d
  ·subst z
   rw [zL_] at e; cases e
   exact zgd_ hd (fun _ z=>by cases z) (fun _ z=>by cases z) (I.hok a _ hd).2
  ·rw [zv_ z] at e
   exact zgd_ hd (fun _ z=>by cases z) (fun _ z=>by cases z) (I.hok a u e)
end
theorem zbn_ {α β:Type}{R:α→β→Prop}:∀ {xs:List α}{ys:List β},Paired R xs ys→∀ i:Nat,(xs[i]?=none∧ys[i]?=none)∨∃ x y,xs[i]?=some x∧ys[i]?=some y∧R x y
 | _,_,.nil,_=>.inl ⟨rfl,rfl⟩
 | _,_,.cons r t,0=>.inr ⟨_,_,rfl,rfl,r⟩
 | _,_,.cons r t,i+1=>by simpa using zbn_ t i
noncomputable def Iti (d:Addr) (o:Obj) (kvs:List (Key×V)):It :=
 ⟨fun i H=>H d=some (.frz o (.dK kvs))∧i<kvs.length,fun i H y H'=>∃ p q,kvs[i]?=some q∧H p=none∧y=.ref p∧H'=upd H p (.tup [kV q.1,q.2]),fun i H=>H d=some (.frz o (.dK kvs))∧kvs.length≤i⟩
theorem kV_of {P:Program}{w:World}{k:Key}{u:Value}(h:(mixKind P w).is k u=true):RelV (kV k) u:=by
 cases k with
 | inl i=>exact Value.isInt_shape h
 | inr x=>exact Value.isStrOf_shape h
theorem zgg_ {P:Program}{w:World}{K:Fgg}{elts:List Expr}{kk:Nat}{pos:Pos}(it d:Addr) (o:Obj) (kvs:List (Key×V)) (ep:Nat) (hep:∃ es,o.data=.dict es ep) :
  Turn P w K (.Tuple elts kk pos) (Iti d o kvs) [it] it (fun i h=>∃ ok ov,IsItemIter h it d i kvs.length ep ok ov) where
 mem:=by simp
 obj:=fun i h st b hb=>by
  have e:b=it:=by simpa using hb
  subst e
  obtain ⟨ok,ov,he⟩:=st
  exact ⟨_,he,fun v z=>by cases z⟩
 keep:=fun i h h' st k=>by
  obtain ⟨ok,ov,he⟩:=st
  exact ⟨ok,ov,k it (by simp) _ he⟩
 item:=by
  intro X hP hw hK hc i pins s σ H E I hf st hg
  subst hP hw hK
  obtain ⟨hd,hi⟩:=hg
  obtain ⟨ok,ov,he⟩:=st
  obtain ⟨hod,z,hsys,vs,rel,dd⟩:=(show ObjOk X.prog X.w H s.heap d (.frz o (.dK kvs)) from I.hok d _ hd)
  have hl:kvs.length=vs.length:=rel.length
  obtain ⟨ep',hat⟩:=dd.dictAt
  obtain ⟨es,hes⟩:=hep
  have e:ep'=ep:=by
   obtain ⟨o2,es2,h1,h2,h3,_⟩:=hat
   rw [hod] at h1; cases h1
   rw [hes] at h3; cases h3; rfl
  subst e
  rcases zbn_ rel i with ⟨a,_⟩ | ⟨q,qv,hq,hqv,r1,r2⟩
  ·have:=List.getElem?_eq_none_iff.mp a; lia
  rw [hl] at he
  refine wpAny_pyNext_items_item he hat (k:=qv.1) (v:=qv.2) hqv fun key h1 hkey hout htup hsz hk=>?_
  refine ⟨_,rfl,?_⟩
  refine wpAny_letOwnedTupleGo_items (s:={ s with heap:=h1 }) hout fun h2 he2 hs2=>?_
  replace hs2:Heap.SameBut it h1 h2:=hs2
  have hit:it<s.heap.objs.size:=Heap.lt_size he
  have hp:H s.heap.objs.size=none:=I.hok.fresh (Nat.le_refl _)
  have hni:s.heap.objs.size≠it:=Nat.ne_of_gt hit
  have I1:Inv X pins σ (upd H s.heap.objs.size (.tup [kV q.1,q.2])) { s with heap:=s.heap.push { cls:=.type "tuple",data:=.seq #[key,qv.2] } }:=by
   refine I.laid (t':=s.toks) (fun b u q=>Heap.get?_push_of_some _ q) (Nat.le_refl _) ⟨?_,[key,qv.2],.cons (by rw [r1]; exact kV_of hkey) (.cons r2 .nil),⟨_,Heap.get?_push_size _ rfl,rfl,_,rfl⟩⟩
   show 2≤sizeLine
   decide
  have hf1:∀ b∈[it],FpOk X pins (upd H s.heap.objs.size (.tup [kV q.1,q.2])) b:=fun b hb=>by
   obtain ⟨f0,r⟩:=hf b hb
   have e:b=it:=by simpa using hb
   exact ⟨by rw [zv_ (by rw [e]; exact hni.symm)]; exact f0,r⟩
  have I2:Inv X pins σ (upd H s.heap.objs.size (.tup [kV q.1,q.2])) { s with heap:=h2 }:=by
   refine Inv.turnedL (s:={ s with heap:=s.heap.push { cls:=.type "tuple",data:=.seq #[key,qv.2] } }) (t':=s.toks) (ch:=[it]) I1 (fun b o hb q=>?_) hf1
   have nbi:b≠it:=fun z=>hb (by simp [z])
   refine (hs2.2 b nbi).trans ?_
   rcases Heap.get?_push_cases q with ⟨rfl,rfl⟩ | q'
   ·exact htup
   ·exact hk b o nbi q'
  rw [← hl] at he2
  exact ⟨.ref s.heap.objs.size,_,I2,rfl,⟨_,q,hq,hp,rfl,rfl⟩,⟨key,qv.2,he2⟩,fun b hb=>(hf1 b hb).1⟩
 done:=by
  intro X hP hw hK hc i pins s σ H E I hf st hg
  subst hP hw hK
  obtain ⟨hd,hi⟩:=hg
  obtain ⟨ok,ov,he⟩:=st
  obtain ⟨hod,z,hsys,vs,rel,dd⟩:=(show ObjOk X.prog X.w H s.heap d (.frz o (.dK kvs)) from I.hok d _ hd)
  have hl:kvs.length=vs.length:=rel.length
  obtain ⟨ep',hat⟩:=dd.dictAt
  obtain ⟨es,hes⟩:=hep
  have e:ep'=ep:=by
   obtain ⟨o2,es2,h1,h2,h3,_⟩:=hat
   rw [hod] at h1; cases h1
   rw [hes] at h3; cases h3; rfl
  subst e
  obtain ⟨f0,f1,f2,f3,f4,f5⟩:=hf it (by simp)
  rw [hl] at he
  exact wpAny_pyNext_items_end (I.ok.hd hc) he hat (List.getElem?_eq_none (by lia)) fun h' eb=>⟨rfl,I.turned (t':=s.toks) (fun b o hb e=>eb b o hb e) f0 f1 f3 f4 f5⟩
 self:=fun A i s Q E st h=>by
  obtain ⟨ok,ov,he⟩:=st
  exact PySem.W.kcp_self he h
noncomputable def iItm (Z:Addr→Prop) (te:TE):TI:=fun σ H R=>te σ H fun x H1=>match x with
 | .ref d=>∃ kvs,H1 d=some (.dK kvs)∧∀ o,Z d→R (Iti d o kvs) (upd H1 d (.frz o (.dK kvs)))
 | _=>False
structure M0 (X:Cx) (o:Expr) (m:Str) (apos:Pos) (cpos:Pos):Prop where
 base:attributeBase o m X.env (eval o X.env)=eval o X.env
 few:((backTo cpos (starEach [] X.env)).all (fun x=>!x.1) && (backToKw cpos (keywordEach [] X.env)).all (fun x=>x.1.isSome) && decide (([]:List Expr).length+([]:List Keyword).length+(if ([]:List Keyword).isEmpty then 0 else 1)<30))=true
 line:(apos.endLine == cpos.line)=true
 trees:backTo cpos (starEach [] X.env)=[]
section
variable {X:Cx}{e:Expr}{te:TE}{apos cpos pos tpos:Pos}{elts:List Expr}{kk:Nat}
theorem ziW_ (he:PE X e te) (m:M0 X e "items" apos cpos):PI X (.Tuple elts kk tpos) (.Call (.Attribute e "items" apos) [] [] cpos) (iItm (Zf X) te):=by
 intro pins s σ H R I h
 refine wpAny_Call_method m.base m.few m.line PySem.F.plainAttrs_dict PySem.F.slot_dict_items PySem.F.type_dict_items (thn (he pins s σ H _ I h) fun u s1 ⟨x,H1,I1,rx,hx⟩=>?_)
 cases x with
 | ref d =>
  obtain ⟨kvs,hd,q⟩:=hx
  obtain rfl:u=Value.ref d:=rx
  obtain ⟨t1,t2,hsys⟩:=zhJ_ I1 (.inl ⟨kvs,.inl hd⟩)
  refine ⟨t1,t2,?_⟩
  rw [m.trees]
  refine Calls.callWith_builtin rfl (PySem.evalArgs_none ?_)
  obtain ⟨z,hsys,vs,rel,dd⟩:=zgO_ I1.hok hd
  refine call_meetsIn PySem.F.slot_dict_items dd.typeIs PySem.F.entry_dict_items (PySem.F.args_dict_items_1 _) (meets_dict_items (mixKind X.prog X.w) d hsys) ⟨⟨vs,dd⟩,?_⟩
  obtain ⟨ep,hat⟩:=dd.dictAt
  obtain ⟨od,es,hod,hc1,hdat,hc2⟩:=id hat
  have hz:Zf X d:=fun o u z=>by have:=I1.base.frzs d o u z; rw [hd] at this; cases this
  have I2:=I1.frzD hd hod
  have I3:Inv X pins σ (upd H1 d (.frz od (.dK kvs))) { s1 with heap:=s1.heap.push { cls:=.type "dict_items",data:=.fields #[.ref d] } }:=I2.kept (t':=s1.toks) fun b o e=>Heap.get?_push_of_some _ e
  refine wpAny_pyIter_items (s:={ s1 with heap:=s1.heap.push { cls:=.type "dict_items",data:=.fields #[.ref d] } }) (kvs:=vs) (ep:=ep) ⟨_,Heap.get?_push_size _ rfl,rfl,rfl⟩ (hat.push _) ?_
  have hl:kvs.length=vs.length:=rel.length
  refine ⟨_,[_],_,Iti d od kvs,_,rfl,I3.kept (t':=s1.toks) fun b o e=>Heap.get?_push_of_some _ e,zgg_ _ d od kvs ep ⟨es,hdat⟩,⟨.none,.none,?_⟩,fun b hb=>?_,q od hz⟩
  ·rw [hl]; exact Heap.get?_push_size _ rfl
  ·have e:=List.mem_singleton.mp hb
   subst e
   exact I3.fpOk (Nat.le_refl _) (I3.hok.fresh (Nat.le_refl _))
 | _=>exact hx.elim
noncomputable def thawE (Z:Addr→Prop) (D:Ends):Ends :=
 { nx:=fun σ H=>∃ d o kvs,Z d∧H d=some (.frz o (.dK kvs))∧D.nx σ (upd H d (.dK kvs)),rt:=fun v H=>∃ d o kvs,Z d∧H d=some (.frz o (.dK kvs))∧D.rt v (upd H d (.dK kvs)) }
noncomputable def mForD (te:TE) (g:TG) (tb:TS):TS:=fun D σ H=>∀ Z,tFor (iItm Z te) g tb (thawE Z D) σ H
theorem zhX_ {body:List Stmt}{g:TG}{tb:TS}(hp:PassesOwn (model X.prog X.w) X.A X.env X.xe) (hc:X.calm=true) (he:PE X e te) (hg:PG X (.Tuple elts kk tpos) g) (hb:PSs X body tb) (m:M0 X e "items" apos cpos:=by exact ⟨rfl,rfl,rfl,rfl⟩)
  (hs:∀ x,foldedSetIterable (.Call (.Attribute e "items" apos) [] [] cpos) X.env x=pure x:=by intro _; rfl) :
  PS X (.For (.Tuple elts kk tpos) (.Call (.Attribute e "items" apos) [] [] cpos) body [] pos) (mForD te g tb):=by
 intro pins s σ H D I h
 refine thn (zbN_ hp hc (ziW_ he m) hg hb hs pins s σ H (thawE (Zf X) D) I (h (Zf X))) fun f s' q=>?_
 cases f with
 | next=>obtain ⟨σ',H',I',d,o,kvs,z,hd,q⟩:=q; exact ⟨σ',_,I'.thawD hd z,q⟩
 | ret u=>obtain ⟨v,σ',H',I',r,d,o,kvs,z,hd,q⟩:=q; exact ⟨v,σ',_,I'.thawD hd z,r,q⟩
 | brk=>obtain ⟨_,_,_,q⟩:=q; exact q.elim
 | cont=>obtain ⟨_,_,_,q⟩:=q; exact q.elim
end
noncomputable abbrev hpE:Hp:=fun _=>none
theorem zcM_ {F:Hp}{d:Addr}{u v:HO}(hd:F d=some u) (hu:∀ xs,u≠.tup xs):Tups F (upd F d v):=fun p xs e=>by
 rw [zv_ (fun z=>by rw [z,hd] at e; cases e; exact hu xs rfl)]; exact e
theorem zfm_ {F0 H0 F h H:Hp}(o:Okk F0 H0 F h H):Okk F0 H0 F hpE H:=⟨o.1,fun _=>.inr rfl,fun _ _ z=>(by cases z),fun _ z=>absurd rfl z,fun _ _ z=>(by cases z)⟩
section
variable {F0 H0 F1 H1 F h H:Hp}{d:Addr}{o:Obj}{u:HO}
theorem zdN_ {A B:Hp}(h:Same A B) {v:HO}:Same (upd A d v) (upd B d v):=fun p w e=>by
 unfold upd at e ⊢
 split
 ·rename_i z; rw [if_pos z] at e; exact e
 ·rename_i z; rw [if_neg z] at e; exact h _ _ e
theorem zcB_ (x:Ext F0 H0 F1 H1) (hd:F1 d=some u) (ok:Okk (upd F1 d (.frz o u)) (upd H1 d (.frz o u)) F h H):F d=some (.frz o u)∧H d=some (.frz o u)∧Okk F0 H0 (upd F d u) h (upd H d u):=by
 obtain ⟨⟨o1,o2,o3,o4⟩,o5,o6,o7,o8⟩:=ok
 have e1:F d=some (.frz o u):=o1 _ _ zL_
 have e2:H d=some (.frz o u):=o2 _ _ e1
 have hh:h d=none:=by
  rcases o5 d with z | z
  ·rw [e1] at z; cases z
  ·exact z
 have hd1:H1 d=some u:=x.2.1 _ _ hd
 have frees:∀ p,H1 p=none→H0 p=none:=fun p z=>x.2.2.1.free z
 refine ⟨e1,e2,⟨fun p w e=>?_,zdN_ o2,fun p w e=>?_,fun p a b=>?_⟩,fun p=>?_,fun p w e=>?_,fun p z=>?_,o8⟩
 ·by_cases z:p=d
  ·subst z
   have:=x.1 _ _ e
   rw [hd] at this; cases this; exact zL_
  ·rw [zv_ z]; exact o1 _ _ (by rw [zv_ z]; exact x.1 _ _ e)
 ·by_cases z:p=d
  ·subst z
   have:=x.2.2.1 _ _ e
   rw [hd1] at this; cases this; exact zL_
  ·rw [zv_ z]; exact o3 _ _ (by rw [zv_ z]; exact x.2.2.1 _ _ e)
 ·by_cases z:p=d
  ·subst z
   exact x.2.2.2 p a (by rw [hd]; exact Option.some_ne_none _)
  ·rw [zv_ z] at b
   cases y:F1 p with
   | some w=>exact x.2.2.2 p a (by rw [y]; exact Option.some_ne_none _)
   | none =>
    have:=o4 p (by rw [zv_ z]; exact y) b
    rw [zv_ z] at this
    exact frees p this
 ·by_cases z:p=d
  ·subst z; exact .inr hh
  ·rw [zv_ z]; exact o5 p
 ·by_cases z:p=d
  ·subst z; rw [hh] at e; cases e
  ·rw [zv_ z]; exact o6 _ _ e
 ·by_cases y:p=d
  ·subst y; exact absurd hh z
  ·have:=o7 p z
   rw [zv_ y] at this
   exact frees p this
end
section
variable {K:Fgg}{E:XK}{α β γ ρ κ S B:Type}{L Li:List Sl}{T:Ty α}{O:Own ρ}{LB:B→List Sl}{KY:KyT κ}
theorem zh5_ [DecidableEq κ] {a:List (κ×α)}{v:V}{F:Hp}(h:(tyD KY T).R a v F):v≠.non:=by obtain ⟨p,vs,rfl,_⟩:=h; exact fun z=>V.noConfusion z
end
end L2
namespace L2
open PySem PySem.Spec PyProof.Rows
section
variable {K:Fgg}{E:XK}{α β γ ρ κ S B:Type}{F0 H0 F h H:Hp}{L:List Sl}{T:Ty α}{O:Own ρ}{t u:TS}{e e1 e2:TE}{LS:S→List Sl}{LB:B→List Sl}{KY:KyT κ}
theorem zhj_ {i:Nat}{o:Option α}{k:α→Mo (Out ρ B S)}(hi:L[i]?=some (.fz (tyOpt T) o)) (hk:∀ a,EvS K u E (L.set i (.fz T a)) (k a) LS LB O):EvS K u E L ((Mo.opt o).bind k) LS LB O:=by
 cases o with
 | none=>exact fun F0 H0 σ F h H D hL ok fin=>fin.elim
 | some a =>
  intro F0 H0 σ F h H D hL ok fin
  refine hk a F0 H0 σ F h H D ?_ ok fin
  obtain ⟨o,h1,h2,e1,j,⟨v,e2,r,_⟩,f⟩:=hL.at i hi
  subst e2
  have g:=f (.fz T a) (some v) h1 h j ⟨v,rfl,r⟩
  rw [zay_ e1] at g
  exact g
variable [DecidableEq κ]
end
section
variable {K:Fgg}{E:XK}{α κ:Type}{T:Ty α}{KY:KyT κ} [DecidableEq κ]
end
end L2
namespace L2
open PySem PySem.Spec PyProof.Rows
noncomputable def eqDk (ka kb:List (Key×V)):Bool:=ka.length == kb.length && ka.all fun e=>match valV kb e.1 with | some v=>eqV e.2 v | none=>false
noncomputable def IntK (ka:List (Key×V)):Prop:=∀ e∈ka,(∃ i,e.1=Sum.inl i)∧flatV e.2=true
theorem zc9_ {P P':Program}{w w':World}:∀ {es:List DictEntry}{vs:List (Key×Value)},Pairs (mixKind P w) es vs→Pairs (mixKind P' w') es vs
 | _,_,.nil=>.nil
 | _,_,.cons a b c=>.cons a b (zc9_ c)
theorem zdg_ {P:Program}{w:World}:∀ {es:List DictEntry}{vs:List (Key×Value)},Pairs (mixKind P w) es vs→∀ e∈es,∃ kv∈vs,keyIs kv.1 e.key=true
 | _,_,.nil,e,h=>by cases h
 | _,_,.cons a b c,e,h=>by
  rcases List.mem_cons.mp h with rfl | h
  ·exact ⟨_,List.mem_cons_self,a⟩
  ·obtain ⟨kv,h1,h2⟩:=zdg_ c e h
   exact ⟨kv,List.mem_cons_of_mem _ h1,h2⟩
theorem zet_ {P P':Program}{w w':World}{h:Heap}{a:Addr}{vs:List (Key×Value)}(hi:∀ e∈vs,∃ i,e.1=Sum.inl i) (d:h.DictOf (mixKind P w) a vs):h.DictOf (mixKind P' w') a vs:=by
 obtain ⟨o,es,ep,e,c,dd,hk,hp,hn⟩:=d
 refine ⟨o,es,ep,e,c,dd,fun x hx=>?_,zc9_ hp,hn⟩
 obtain ⟨k,h1,h2⟩:=hk x hx
 obtain ⟨kv,g1,g2⟩:=zdg_ hp x (by simpa using hx)
 obtain ⟨i,ei⟩:=hi kv g1
 have ek:k=kv.1:=(mixKind P w).inj x.key k kv.1 h1 g2
 refine ⟨k,h1,?_⟩
 rw [h2,ek,ei]; rfl
section
variable {X:Cx}{pins:Pnn}{σ:St}{H:Hp}{s:Shared}{A:Around}{p q:Addr}{ka kb:List (Key×V)}
theorem zh4_ {ka:List (Key×V)}{va:List (Key×Value)}(r:KV ka va) (i:IntK ka):∀ e∈va,∃ j,e.1=Sum.inl j:=by
 unfold KV at r
 induction r with
 | nil=>intro e h; cases h
 | cons h t ih =>
  rename_i x y _ _
  intro e he
  rcases List.mem_cons.mp he with rfl | he
  ·obtain ⟨⟨j,ej⟩,_⟩:=i x List.mem_cons_self
   exact ⟨j,by rw [← h.1,ej]⟩
  ·exact ih (fun e he=>i e (List.mem_cons_of_mem _ he)) e he
theorem ze7_ {vb:List (Key×Value)}(rb:KV kb vb) (ib:IntK kb):∀ {ka:List (Key×V)}{va:List (Key×Value)},KV ka va→IntK ka→PySem.W.KeqHits A s vb va (ka.all fun e=>match valV kb e.1 with | some v=>eqV e.2 v | none=>false):=by
 intro ka va r
 unfold KV at r
 induction r with
 | nil=>exact fun _=>.nil
 | cons h t ih =>
  rename_i x y ks vs
  intro i
  obtain ⟨k,v⟩:=y
  rw [List.all_cons]
  have rk:=rb.val x.1
  cases g:valV kb x.1 with
  | none =>
   rw [g] at rk
   cases g2:valueAt vb x.1 with
   | none=>rw [Bool.false_and]; exact .miss (by have z:x.1=k:=h.1; rw [← z]; exact g2)
   | some u=>rw [g2] at rk; exact rk.elim
  | some w =>
   rw [g] at rk
   cases g2:valueAt vb x.1 with
   | none=>rw [g2] at rk; exact rk.elim
   | some u =>
    rw [g2] at rk
    have fw:flatV w=true:=by
     unfold valV at g
     obtain ⟨e,he,hw⟩:=Option.map_eq_some_iff.mp g
     rw [← hw]; exact (ib e (List.mem_of_find?_eq_some he)).2
    exact .hit (by have z:x.1=k:=h.1; rw [← z]; exact g2) (zgn_ h.2 rk (i x List.mem_cons_self).2 fw) (ih fun e he=>i e (List.mem_cons_of_mem _ he))
end
section
variable {K:Fgg}{E:XK}
noncomputable def eqDm (m m':List (Int×List Nat)):Bool:=m.length == m'.length && m.all fun e=>decide (getA m' e.1=some e.2)
theorem zfr_ {H:Hp}{m:List (Int×List Nat)}{ka:List (Key×V)}(h:DPr kInt tyStr H m ka):IntK ka:=by
 induction h with
 | nil=>intro e he; cases he
 | cons r t ih =>
  intro e he
  rcases List.mem_cons.mp he with rfl | he
  ·exact ⟨⟨_,r.1⟩,by rw [show _=tx _ from r.2]; rfl⟩
  ·exact ih e he
theorem ziI_ {H:Hp}{m m':List (Int×List Nat)}{ka kb:List (Key×V)}(h:DPr kInt tyStr H m ka) (h':DPr kInt tyStr H m' kb):eqDk ka kb=eqDm m m':=by
 unfold eqDk eqDm
 rw [← Paired.length h,← Paired.length h']
 congr 1
 induction h with
 | nil=>rfl
 | cons r t ih =>
  rw [List.all_cons,List.all_cons,ih]
  congr 1
  rename_i x y _ _
  rw [r.1]
  have e2:y.2=tx x.2:=r.2
  rcases zda_ h' x.1 with ⟨z1,z2⟩ | ⟨a,v,z1,z2,z3⟩
  ·rw [show valV kb (kInt.key x.1)=none from z2,z1]; rfl
  ·rw [show valV kb (kInt.key x.1)=some v from z2,z1,e2,show v=tx a from z3]
   show eqV (tx x.2) (tx a)=decide (some a=some x.2)
   unfold eqV
   rw [Bool.eq_iff_iff,decide_eq_true_iff]
   constructor
   ·intro h
    have h:=eq_of_beq h
    injection h with h
    have:=congrArg Array.toList h
    rw [show a=x.2 by simpa using this.symm]
   ·intro h
    rw [Option.some.inj h]; exact beq_self_eq_true _
end
end L2
namespace L2
open PySem PySem.Spec PyProof.Rows
section
variable {K:Fgg}{E:XK}{L:List Sl}{e:TE}
end
end L2
namespace L2
open PySem PySem.Spec PyProof.Rows
section
variable {K:Fgg}{E:XK}{α β γ ρ ρ' S B:Type}{F0 H0 F h H:Hp}{L:List Sl}{T:Ty α}{Or:Own ρ}{t u:TS}{e e1 e2 te:TE}{LS:S→List Sl}{LB:B→List Sl}{i j:Nat}{σ:St}
noncomputable abbrev owOpt (O:Own α):Own (Option α):=⟨fun a v F h=>match a with | none=>v=.non∧∀ p,h p=none | some x=>O.O x v F h∧v≠.non,tyOpt O.fr,
 fun {a v F F' h} g q=>by cases a with | none=>exact q | some x=>exact ⟨O.mono g q.1,q.2⟩,
 fun {a v F h} d q=>by cases a with | none=>exact q.1 | some x=>exact ⟨O.frz d q.1,q.2⟩,
 fun {a v F h} q p xs z=>by cases a with | none=>rw [q.2] at z; cases z | some x=>exact O.notup q.1 p xs z⟩
theorem zbt_ {O:Own α}(i:ImmO O):ImmO (owOpt O):=fun {a v F F' h} g q=>by cases a with | none=>exact q | some x=>exact ⟨i g q.1,q.2⟩
noncomputable abbrev owT2 (O1:Own α) (O2:Own β):Own (α×β):=⟨fun c v F h=>∃ p v1 v2 h1 h2,v=.ref p∧F p=some (.tup [v1,v2])∧Jn h1 h2 h∧O1.O c.1 v1 F h1∧O2.O c.2 v2 F h2,tyTup (csCons O1.fr (csLast O2.fr)),
 fun g ⟨p,v1,v2,h1,h2,e,hp,j,a,b⟩=>⟨p,v1,v2,h1,h2,e,g _ _ hp,j,O1.mono g a,O2.mono g b⟩,
 fun d ⟨p,v1,v2,h1,h2,e,hp,j,a,b⟩=>⟨p,[v1,v2],e,zax_ _ _ hp,v1,[v2],rfl,O1.fr.mono (zev_ d j.l) (O1.frz (dj_l d j) a),v2,rfl,O2.fr.mono (zev_ d j.r) (O2.frz (dj_r d j) b)⟩,
 fun ⟨p,v1,v2,h1,h2,e,hp,j,a,b⟩ q xs z=>by
  rcases j q with ⟨_,y⟩ | ⟨_,y⟩
  ·rw [y] at z; exact O2.notup b q xs z
  ·rw [y] at z; exact O1.notup a q xs z⟩
theorem zdM_ {O1:Own α}{O2:Own β}(i1:ImmO O1) (i2:ImmO O2):ImmO (owT2 O1 O2):=fun g ⟨p,v1,v2,h1,h2,e,hp,j,a,b⟩=>⟨p,v1,v2,h1,h2,e,g _ _ hp,j,i1 g a,i2 g b⟩
theorem zhy_ {p:Addr}:(V.ref p)≠.non:=fun z=>V.noConfusion z
theorem zdP_ (O:Own α):EvO K (tC .non) E L (.ok none) (owOpt O):=by
 intro σ F H Q hL hs q
 exact q.ok hs .non (fun _=>none) (fun p z=>absurd rfl z) (fun p=>.inr rfl) (fun p o z=>by cases z) ⟨rfl,fun _=>rfl⟩
theorem zg9_ {O:Own α}{a:α}(nn:∀ {x v F h},O.O x v F h→v≠.non) (hi:L[i]?=some (.ow O a)):EvS K (tRet (mVar i)) E L (.ok (.rt (some a))) LS LB (owOpt O):=by
 intro F0 H0 σ F h H D hL ok fin
 obtain ⟨o,h1,h2,e1,j,⟨v,e2,hv⟩,f⟩:=hL.at i hi
 subst e2
 exact zbj_ e1 (fin v F h1 H (zfk_ ok j.l) ⟨hv,nn hv⟩)
theorem zfS_ {O:Own α}{o:Option α}{k:α→Mo (Out ρ B S)}(hi:L[i]?=some (.ow (owOpt O) o)) (hk:∀ a,EvS K u E (L.set i (.ow O a)) (k a) LS LB Or):EvS K u E L ((Mo.opt o).bind k) LS LB Or:=by
 cases o with
 | none=>exact fun F0 H0 σ F h H D hL ok fin=>fin.elim
 | some a =>
  intro F0 H0 σ F h H D hL ok fin
  refine hk a F0 H0 σ F h H D ?_ ok fin
  obtain ⟨o,h1,h2,e1,j,⟨v,e2,r,_⟩,f⟩:=hL.at i hi
  subst e2
  have g:=f (.ow O a) (some v) h1 h j ⟨v,rfl,r⟩
  rw [zay_ e1] at g
  exact g
theorem zhp_ {O1:Own α}{O2:Own β}{a:α}{b:β}(hij:i≠j) (hi:L[i]?=some (.ow O1 a)) (hj:L[j]?=some (.ow O2 b)) :
  EvS K (tRet (tTup (tCons (mVar i) (tCons (mVar j) tNil)))) E L (.ok (.rt (some (a,b)))) LS LB (owOpt (owT2 O1 O2)):=by
 intro F0 H0 σ F h H D hL ok fin
 obtain ⟨_,kj,hr,ej,jj,⟨v,e2,hb⟩,f⟩:=hL.at j hj
 subst e2
 have hd:=f .dead (some v) (fun _=>none) hr (fun p=>.inl ⟨rfl,rfl⟩) trivial
 rw [zay_ ej] at hd
 obtain ⟨_,ki,_,ei,ji,⟨v',e3,hx⟩,_⟩:=hd.at i (by rw [List.getElem?_set_ne (Ne.symm hij)]; exact hi)
 subst e3
 show mVar i σ H fun x1 H1=>mVar j σ H1 fun x2 H2=>[x1,x2].length≤sizeLine∧∀ p,H2 p=none→D.rt (.ref p) (upd H2 p (.tup [x1,x2]))
 refine zbj_ ei ?_
 refine zbj_ ej ?_
 refine ⟨zaK_ (by show 2≤100000; decide),fun p hp=>?_⟩
 have d:Dj ki kj:=fun q=>by
  rcases jj.dj q with z | z
  ·exact .inr z
  ·exact .inl (ji.l.free z)
 have sk:Same (un ki kj) h:=fun q s z=>by
  unfold un at z
  cases y:ki q with
  | some w=>rw [y] at z; rw [← z]; exact jj.r _ _ (ji.l _ _ y)
  | none=>rw [y] at z; exact jj.l _ _ z
 have x:=Ext.new (o:=.tup [v',v]) ok.1.2.1 hp
 have hpk:un ki kj p=none:=(sk.trans ok.2.2.1).free hp
 refine fin (.ref p) _ (un ki kj) _ ⟨ok.1.trans x,fun q=>?_,(sk.trans ok.2.2.1).trans x.2.2.1,fun q z=>ok.2.2.2.1 q fun y=>z (sk.free y),fun q xs z=>ok.2.2.2.2 q xs (sk _ _ z)⟩ ⟨⟨p,v',v,ki,kj,rfl,zL_,zfF_ d,O1.mono x.1 hx,O2.mono x.1 hb⟩,zhy_⟩
 by_cases z:q=p
 ·rw [z]; exact .inr hpk
 ·rw [zv_ z]
  rcases ok.2.1 q with y | y
  ·exact .inl y
  ·exact .inr (sk.free y)
theorem jn_no {h1 h2 h:Hp}(j:Jn h1 h2 h) (n:∀ p,h2 p=none):h=h1:=funext fun p=>by
 rcases j p with ⟨a,b⟩ | ⟨_,b⟩
 ·rw [b,n,a]
 ·exact b
theorem zcY_ {O:Own α}{O':Own β}{r:Mo (Option β×(Option β→α))}(hp:EvPt K te E L i O (owOpt O') r) :
  EvPt K te E L i O O' (r.bind fun yp=>(Mo.opt yp.1).bind fun z=>.ok (z,fun z'=>yp.2 (some z'))):=by
 intro F0 H0 σ F h H Q hL ok q
 refine hp F0 H0 σ F h H _ hL ok (q.bind.imp fun yp G1 H1 x1 k1 u fc=>?_)
 obtain ⟨z,ez,k2⟩:=k1.bind.opt
 obtain ⟨y,put⟩:=yp
 cases (show y=some z from ez)
 refine (k2.ok x1.2.1).ok x1.2.1 u (Foc.part (put:=some) (LF:=fun y'=>L.set i (.ow O (put y'))) fc fun F2 k s kh ho=>⟨k,fun _=>none,fun p=>.inr ⟨rfl,rfl⟩,ho.1,fun z' k1' k' F3 s3 hz j=>?_⟩)
 rw [jn_no j fun _=>rfl]
 exact ⟨hz,ho.2⟩
theorem ziS_ {O:Own α}{O1:Own β}{O2:Own γ}{r:Mo ((β×γ)×(β×γ→α))}(hp:EvPt K te E L i O (owT2 O1 O2) r) :
  EvPt K (tOp (mIx K) te (tC (.int 0))) E L i O O1 (r.bind fun yp=>.ok (yp.1.1,fun z'=>yp.2 (z',yp.1.2))):=by
 intro F0 H0 σ F h H Q hL ok q
 refine hp F0 H0 σ F h H _ hL ok (q.bind.imp fun yp G1 H1 x1 k1 u fc=>?_)
 obtain ⟨o1,_,_⟩:=ok.back x1
 obtain ⟨k,⟨p,v1,v2,h1,h2,rfl,hpt,jn,ha,hb⟩,kh,_⟩:=fc _ H1 (Same.refl _) o1
 refine ⟨_,.inr (.of (o1.1.2.1 _ _ hpt)),?_⟩
 refine k1.ok x1.2.1 v1 (Foc.part (put:=fun z'=>(z',yp.1.2)) (LF:=fun y'=>L.set i (.ow O (yp.2 y'))) fc fun F2 k s kh ho=>?_)
 obtain ⟨p',w1,w2,g1,g2,ep,hpt',jn',ha',hb'⟩:=ho
 cases ep
 have e:=s _ _ hpt
 rw [hpt'] at e
 cases e
 exact ⟨g1,g2,jn',ha',fun z' k1' k' F3 s3 hz j=>⟨p,v1,v2,k1',g2,rfl,s3 _ _ hpt',j,hz,O2.mono s3 hb'⟩⟩
theorem zfs_ {h1 h2 h:Hp}(j:Jn h1 h2 h):Jn h2 h1 h:=fun p=>(j p).elim (fun ⟨a,b⟩=>.inr ⟨a,b⟩) (fun ⟨a,b⟩=>.inl ⟨a,b⟩)
theorem ziB_ {O:Own α}{O1:Own β}{O2:Own γ}{r:Mo ((β×γ)×(β×γ→α))}(hp:EvPt K te E L i O (owT2 O1 O2) r) :
  EvPt K (tOp (mIx K) te (tC (.int 1))) E L i O O2 (r.bind fun yp=>.ok (yp.1.2,fun z'=>yp.2 (yp.1.1,z'))):=by
 intro F0 H0 σ F h H Q hL ok q
 refine hp F0 H0 σ F h H _ hL ok (q.bind.imp fun yp G1 H1 x1 k1 u fc=>?_)
 obtain ⟨o1,_,_⟩:=ok.back x1
 obtain ⟨k,⟨p,v1,v2,h1,h2,rfl,hpt,jn,ha,hb⟩,kh,_⟩:=fc _ H1 (Same.refl _) o1
 refine ⟨_,.inr (.of (o1.1.2.1 _ _ hpt)),?_⟩
 refine k1.ok x1.2.1 v2 (Foc.part (put:=fun z'=>(yp.1.1,z')) (LF:=fun y'=>L.set i (.ow O (yp.2 y'))) fc fun F2 k s kh ho=>?_)
 obtain ⟨p',w1,w2,g1,g2,ep,hpt',jn',ha',hb'⟩:=ho
 cases ep
 have e:=s _ _ hpt
 rw [hpt'] at e
 cases e
 exact ⟨g2,g1,zfs_ jn',hb',fun z' k1' k' F3 s3 hz j=>⟨p,v1,v2,g1,k1',rfl,s3 _ _ hpt',zfs_ j,O1.mono s3 ha',hz⟩⟩
theorem zhY_ {E0:XK}{O:Own α}{O':Own β}{r0:Mo (β×(β→α))}{Q:Cs γ}{ta:TA}{ra:Mo γ}{g:β→γ→Mo (ρ'×β)}{Or':Own ρ'}{k:α→Mo (Out ρ B S)}(hI:ImmO O') (hp:EvPt K te E L i O O' r0) (hC:ImmC Q) (ha:EvA K ta E L ra Q)
  (hk:∀ x',EvS K u E (L.set i (.ow O x')) (k x') LS LB Or) :
  EvS K (tSeq (tDrop (tCall (CtM K O' O' Q g Or') [] E0 (tCons te ta))) u) E L (r0.bind fun yp=>ra.bind fun c=>(g yp.1 c).noex.bind fun q=>k (yp.2 q.2)) LS LB Or:=by
 intro F0 H0 σ F h H D hL ok fin
 show te σ H fun x H1=>ta σ H1 fun vs H2=>CtM K O' O' Q g Or' ((x::vs)++[]) H2 (fun _ H3=>u D σ H3) E0
 refine hp F0 H0 σ F h H _ hL ok (z8_ (G:=F) ok _ (.inl rfl) fin fun yp G1 H1 hr0 x1 u0 fc=>?_)
 obtain ⟨o1,hs1,_⟩:=ok.back x1
 rw [hr0] at fin
 refine ha σ (un (less G1 h) h) H1 _ ((hL.mono hs1).froz o1.2.1) o1.thaw (z8_ (G:=F) o1 _ (.inl rfl) fin fun c G2 H2 hra x2 vs hvs=>?_)
 obtain ⟨o2,hs2,ht2⟩:=o1.back x2
 rw [hra] at fin
 rw [List.append_nil]
 obtain ⟨k1,hO,kh1,gg⟩:=fc _ H2 hs2 o2
 have dFc:∀ q,less h k1 q≠none→k1 q=none:=fun q z=>by
  cases y:k1 q with
  | none=>rfl
  | some s=>exact absurd (zas_ (H:=h) q (by rw [y]; exact Option.some_ne_none _)) z
 have sFc:Same (un (less G2 h) (less h k1)) H2:=fun q o z=>by
  unfold un at z
  cases y:less G2 h q with
  | some s=>rw [y] at z; rw [← z]; exact o2.1.2.1 _ _ y
  | none=>rw [y] at z; exact o2.2.2.1 _ _ (zbG_ _ _ z)
 have djc:Dj (un (less G2 h) (less h k1)) k1:=fun q=>by
  by_cases z:k1 q=none
  ·exact .inr z
  ·left
   unfold un
   have:less G2 h q=none:=zas_ q fun y=>z (kh1.free y)
   rw [this]; exact zas_ q z
 refine ⟨un (less G2 h) (less h k1),k1,yp.1,c,u0,vs,rfl,sFc,djc,kh1.trans o2.2.2.1,O'.mono zax_ hO,Q.mono zax_ (hC ht2 hvs),?_⟩
 have fin:Fin K ((g yp.1 c).noex.bind fun q=>k (yp.2 q.2)) E LS LB Or F0 H0 D:=fin
 cases e:g yp.1 c with
 | no=>rw [e] at fin; exact fin
 | ex cc=>rw [e] at fin; exact fin.elim
 | ok q =>
  rw [e] at fin
  rintro F' h' H' okc v ⟨hr,hs',j,_,hO2⟩
  have lo:∀ q',less h k1 q'≠none→h q'≠none:=fun q' z y=>z (by unfold less; split; exact y; rfl)
  have tp:Tups F' (less F' (less h k1)):=fun b xs z=>by
   cases y:less h k1 b with
   | none=>rw [zV_ y]; exact z
   | some s =>
    exfalso
    have y2:un (less G2 h) (less h k1) b=some s:=by
     unfold un
     have:less G2 h b=none:=zas_ b (lo b (by rw [y]; exact Option.some_ne_none _))
     rw [this]; exact y
    have:=okc.1.1 _ _ y2
    rw [z] at this
    injection this with this
    exact o2.2.2.2.2 b xs (by rw [this]; exact zbG_ _ _ y)
  have PC:PutC (less G2 h) H2 h H0 k1 hs' (less F' (less h k1)) H':=by
   refine ⟨fun b o z=>?_,fun b o z=>okc.1.2.1 _ _ (zbG_ _ _ z),okc.1.2.2.1,fun b a1 a2=>?_,j.r.trans okc.2.2.1,fun b=>?_,fun b a1 a2=>?_⟩
   ·have hb:h b=none:=by
     cases y:h b with
     | none=>rfl
     | some s=>rw [zas_ b (by rw [y]; exact Option.some_ne_none _)] at z; cases z
    have:less h k1 b=none:=zbG_.free hb
    rw [zV_ this]
    exact okc.1.1 _ _ (zax_ _ _ z)
   ·have y:less h k1 b=none:=by
     cases y:less h k1 b with
     | none=>rfl
     | some s=>exact absurd (zas_ b (by rw [y]; exact Option.some_ne_none _)) a2
    rw [zV_ y] at a2
    have y2:un (less G2 h) (less h k1) b=none:=by unfold un; rw [a1]; exact y
    have y3:=okc.1.2.2.2 b y2 a2
    by_cases z:k1 b=none
    ·left; rw [zV_ z] at y3; exact y3
    ·exact .inr z
   ·by_cases z:hs' b=none
    ·exact .inr z
    ·left
     rcases okc.2.1 b with y | y
     ·exact zbG_.free y
     ·exact absurd (j.r.free y) z
   ·have y:=okc.2.2.2.1 b fun y=>a2 (j.r.free y)
    rw [zV_ a1] at y
    exact ⟨o2.2.2.1.free y,o2.1.2.2.1.free y⟩
  obtain ⟨h3,a1,a2⟩:=gg q.2 hs' _ H' PC (hI tp hO2)
  exact hk _ F0 H0 σ _ h3 H' D a1 a2 fin
theorem zfL_ {E0:XK}{O:Own α}{O':Own β}{r0:Mo (β×(β→α))}{Q:Cs γ}{ta:TA}{ra:Mo γ}{g:β→γ→Mo (ρ'×β)}{Or':Own ρ'}{k:α→Mo (Out ρ B S)}(hI:ImmO O') (hp:EvPt K te E L i O O' r0) (hC:ImmC Q) (ha:EvA K ta E L ra Q)
  (hk:∀ x',EvS K u E (L.set i (.ow O x')) (k x') LS LB Or) :
  EvS K (tSeq (tDrop (tCall (CtM K O' O' Q g Or') [] E0 (tCons te ta))) u) E L (r0.bind fun yp=>ra.bind fun c=>(g yp.1 c).noex.bind fun q=>(Mo.ok (yp.2 q.2)).bind k) LS LB Or:=zhY_ hI hp hC ha hk
theorem nno_d {κ:Type}{KY:KyT κ}{x:List (κ×α)}{v:V}{F h:Hp}(q:(owD KY T).O x v F h):v≠.non:=by obtain ⟨p,kvs,rfl,_⟩:=q; exact zhy_
end
inductive SubP (w:Nat→V):Nat→List Sl→List Sl→List Sl→Prop
 | nil {n:Nat}:SubP w n [] [] []
 | dead {n:Nat}{s:Sl}{L L' L2:List Sl}(h:SubP w (n+1) L L' L2):SubP w n (s::L) (.dead::L') (.dead::L2)
 | keep {n:Nat}{α:Type}{T:Ty α}{a:α}{L L' L2:List Sl}(h:SubP w (n+1) L L' L2):SubP w n (.fz T a::L) (.fz tyV0 (w n)::L') (.fz T a::L2)
noncomputable def wOf (σ:St) (k:Nat):V:=((σ[k]?).join).getD .non
theorem SubP.hold {w:Nat→V}{n:Nat}{L L' L2:List Sl}(q:SubP w n L L' L2):∀ {σ:St}{F F' h:Hp},(∀ k,w (n+k)=((σ[k]?).join).getD .non)→Hold L σ F h→Hold L' σ F' hpE:=by
 induction q with
 | nil =>
  intro σ F F' h _ q
  cases σ with
  | nil=>trivial
  | cons o σ=>exact q.elim
 | dead _ ih =>
  intro σ F F' h hw q
  cases σ with
  | nil=>exact q.elim
  | cons o σ=>obtain ⟨h1,h2,j,p,r⟩:=q; exact ⟨hpE,hpE,fun _=>.inl ⟨rfl,rfl⟩,trivial,ih (fun k=>by rw [Nat.add_assoc,Nat.add_comm 1 k]; exact hw (k+1)) r⟩
 | keep _ ih =>
  intro σ F F' h hw q
  cases σ with
  | nil=>exact q.elim
  | cons o σ=>obtain ⟨h1,h2,j,⟨v,e,p⟩,r⟩:=q; subst e; exact ⟨hpE,hpE,fun _=>.inl ⟨rfl,rfl⟩,⟨v,rfl,(hw 0).symm⟩,ih (fun k=>by rw [Nat.add_assoc,Nat.add_comm 1 k]; exact hw (k+1)) r⟩
theorem SubP.back {w:Nat→V}{n:Nat}{L L' L2:List Sl}(q:SubP w n L L' L2):∀ {σ σ':St}{F F' F2 h h':Hp},(∀ k,w (n+k)=((σ[k]?).join).getD .non)→Hold L σ F h→Same F F2→Hold L' σ' F' h'→Hold L2 σ' F2 hpE:=by
 induction q with
 | nil =>
  intro σ σ' F F' F2 h h' _ _ _ q
  cases σ' with
  | nil=>trivial
  | cons o σ=>exact q.elim
 | dead _ ih =>
  intro σ σ' F F' F2 h h' hw q0 g q
  cases σ with
  | nil=>exact q0.elim
  | cons o0 σ =>
   cases σ' with
   | nil=>exact q.elim
   | cons o σ'=>obtain ⟨_,_,_,_,r0⟩:=q0; obtain ⟨h1,h2,j,p,r⟩:=q; exact ⟨hpE,hpE,fun _=>.inl ⟨rfl,rfl⟩,trivial,ih (fun k=>by rw [Nat.add_assoc,Nat.add_comm 1 k]; exact hw (k+1)) r0 g r⟩
 | @keep n α T a L L' L2 _ ih =>
  intro σ σ' F F' F2 h h' hw q0 g q
  cases σ with
  | nil=>exact q0.elim
  | cons o0 σ =>
   cases σ' with
   | nil=>exact q.elim
   | cons o σ' =>
    obtain ⟨_,_,_,⟨v0,e0,p0⟩,r0⟩:=q0
    obtain ⟨h1,h2,j,⟨v,e,p⟩,r⟩:=q
    subst e0
    have e1:w n=v0:=hw 0
    have e2:v=w n:=p
    exact ⟨hpE,hpE,fun _=>.inl ⟨rfl,rfl⟩,⟨v,e,by rw [e2,e1]; exact T.mono g p0⟩,ih (fun k=>by rw [Nat.add_assoc,Nat.add_comm 1 k]; exact hw (k+1)) r0 g r⟩
section
variable {K:Fgg}{E:XK}{α β γ ρ κ S B:Type}{T:Ty α}{O:Own ρ}{LB:B→List Sl}{KY:KyT κ}
theorem zhq_ {L Lk:List Sl}{Li:(Nat→V)→List Sl}{te:TE}{g:TG}{tb:TS}{r:Mo (List (κ×α))}{ss:κ×α→List (Nat×Sl)}{step:κ×α→Mo (Out ρ Unit Unit)}(hT:Imm T) (hKT:Imm KY.T) (hkv:∀ k F,KY.T.R k (kV (KY.key k)) F) (hi:EvF K te E (L.map Sl.cold) r (tyD KY T))
  (hg:TgR K g (tyTup (csCons KY.T (csLast T))) ss) (hs:∀ w,SubP w 0 L (Li w) Lk) (hO:ImmO O) (hb:∀ w a,EvS K tb E (setL (Li w) (ss a)) (step a) (fun _:Unit=>Li w) (fun _:Unit=>Li w) O) :
  EvS K (mForD te g tb) E L (r.bind fun m=>forO (fun (_:Unit) a=>(step a).noex) m ()) (fun _:Unit=>Lk) LB O:=by
 intro F0 H0 σ0 F h H D hL ok fin Z
 refine hi σ0 F H _ hL.coldF ok.1.2.1 (z8_ (G:=F) ok _ (.inr rfl) fin fun m F1 H1 hr x1 v hv=>?_)
 rw [hr] at fin
 have hw0:∀ k,wOf σ0 (0+k)=((σ0[k]?).join).getD .non:=fun k=>by rw [Nat.zero_add]; rfl
 have hs1:=hs (wOf σ0)
 have hb:=hb (wOf σ0)
 have bk:∀ {σ' F' F'' h'},Same F1 F''→Hold (Li (wOf σ0)) σ' F' h'→Hold Lk σ' F'' hpE:=fun g q=>hs1.back hw0 hL (x1.1.trans g) q
 obtain ⟨d,kvs,rfl,hd,hp⟩:=hv
 have xx:=ok.1.trans x1
 have hd1:H1 d=some (.dK kvs):=x1.2.1 _ _ hd
 have hlen:m.length=kvs.length:=Paired.length hp
 refine ⟨kvs,hd1,fun o hz=>?_⟩
 have tF:Tups F (upd F1 d (.frz o (.dK kvs))):=fun p xs e=>zcM_ hd (fun _ z=>by cases z) p xs (x1.1 _ _ e)
 have sameT:∀ {F'},F' d=some (.frz o (.dK kvs))→Same (upd F1 d (.frz o (.dK kvs))) F'→Same F1 (upd F' d (.dK kvs)):=fun e s p w z=>by
  by_cases y:p=d
  ·subst y; rw [hd] at z; cases z; exact zL_
  ·rw [zv_ y]; exact s _ _ (by rw [zv_ y]; exact z)
 have tb0:∀ {F'},F' d=some (.frz o (.dK kvs))→Tups F' (upd F' d (.dK kvs)):=fun e=>zcM_ e fun _ z=>by cases z
 refine ⟨fun i n σ H=>n=kvs.length-i∧i≤kvs.length∧∃ F h,Hold (Li (wOf σ0)) σ F h∧Okk (upd F1 d (.frz o (.dK kvs))) (upd H1 d (.frz o (.dK kvs))) F h H∧Fin K (forO (B:=B) (fun (_:Unit) a=>(step a).noex) (m.drop i) ()) E (fun _:Unit=>Lk) LB O F0 H0 D,
  ⟨_,rfl,Nat.zero_le _,_,hpE,hs1.hold hw0 hL,zdd_ (zdN_ x1.2.1),fin⟩,?_⟩
 rintro i n σ H ⟨rfl,hi,F,h,hL,ok,fin⟩
 obtain ⟨e1,e2,okt⟩:=zcB_ xx hd ok
 by_cases hlt:i<kvs.length
 ·right
  have hlm:i<m.length:=by lia
  refine ⟨⟨e2,hlt⟩,fun σ' H'=>i+1≤kvs.length∧∃ F h,Hold (Li (wOf σ0)) σ' F h∧Okk (upd F1 d (.frz o (.dK kvs))) (upd H1 d (.frz o (.dK kvs))) F h H'∧Fin K (forO (B:=B) (fun (_:Unit) a=>(step a).noex) (m.drop (i+1)) ()) E (fun _:Unit=>Lk) LB O F0 H0 D,
   fun σ' H' z=>⟨kvs.length-(i+1),by lia,rfl,z⟩,?_⟩
  rintro v H2 ⟨p,q,hq,hp2,rfl,rfl⟩
  have x2:=Ext.new (o:=.tup [kV q.1,q.2]) ok.1.2.1 hp2
  rcases zbn_ hp i with ⟨a,_⟩ | ⟨y,q',hy,hq',r1,r2⟩
  ·have:=List.getElem?_eq_none_iff.mp a; lia
  rw [hq] at hq'; cases hq'
  have hy':m[i]=y:=by have:=List.getElem?_eq_getElem hlm; rw [hy] at this; exact (Option.some.inj this).symm
  have t1:Tups F1 (upd F p (.tup [kV q.1,q.2])):=fun b xs e=>x2.1 _ _ (ok.1.1 _ _ (zcM_ hd (fun _ z=>by cases z) b xs e))
  refine hg y (.ref p) σ _ _ _ x2.2.1 ⟨p,_,rfl,zL_,_,_,rfl,by rw [r1]; exact hkv _ _,_,rfl,hT t1 r2⟩ fun vs hpl=>?_
  refine hb y (upd F1 d (.frz o (.dK kvs))) (upd H1 d (.frz o (.dK kvs))) _ _ h _ _ (zcj_ hpl (hL.mono x2.1)) (ok.cold x2) ?_
  rw [List.drop_eq_getElem_cons hlm,hy'] at fin
  unfold forO at fin
  cases e:step y with
  | no=>rw [e] at fin; exact fin
  | ex c=>rw [e] at fin; exact fin.elim
  | ok w =>
   rw [e] at fin
   cases w with
   | nx s'=>exact fun σ' F' h' H' hL' ok'=>⟨hlt,F',h',hL',ok',fin⟩
   | ct s'=>exact fun σ' F' h' H' hL' ok'=>⟨hlt,F',h',hL',ok',fin⟩
   | bk s' =>
    intro σ' F' h' H' hL' ok'
    obtain ⟨a1,a2,a3⟩:=zcB_ xx hd ok'
    exact ⟨d,o,kvs,hz,a2,fin σ' _ hpE _ (bk (sameT a1 ok'.1.1) hL') (zfm_ a3)⟩
   | rt a =>
    intro v F' h' H' ok' ho
    obtain ⟨a1,a2,a3⟩:=zcB_ xx hd ok'
    exact ⟨d,o,kvs,hz,a2,fin v _ h' _ a3 (hO (tb0 a1) ho)⟩
 ·left
  have e:i=m.length:=by lia
  rw [e,List.drop_length] at fin
  exact ⟨⟨e2,by lia⟩,d,o,kvs,hz,e2,fin σ _ hpE _ (bk (sameT e1 ok.1.1) hL) (zfm_ okt)⟩
noncomputable def mNeD:R2:=fun x y H Q=>match x,y with
 | .ref p,.ref q=>∃ ka kb,H p=some (.dK ka)∧H q=some (.dK kb)∧IntK ka∧IntK kb∧Q (.bl (!(eqDk ka kb))) H
 | _,_=>False
theorem zgF_ {X:Cx}(hu:X.A.units+60<cLine):OpR X (compareOp .NotEq) mNeD:=by
 intro pins s σ H x y v u Q I rx ry h
 unfold mNeD at h
 split at h
 ·cases rx; cases ry
  obtain ⟨ka,kb,hp,hq,ia,ib,h⟩:=h
  obtain ⟨_,la,va,ra,da⟩:=zgO_ I.hok hp
  obtain ⟨_,lb,vb,rb,db⟩:=zgO_ I.hok hq
  refine PySem.W.keq_ne la lb (zet_ (zh4_ ra ia) da:s.heap.DictOf (mixKind X.prog X.w) _ va) (zet_ (zh4_ rb ib) db:s.heap.DictOf (mixKind X.prog X.w) _ vb) (by lia) (fun _=>ze7_ rb ib ra ia) ?_
  rw [← ra.length,← rb.length]
  exact ⟨.bl _,H,I,rfl,h⟩
 ·exact h.elim
theorem zgL_:Op2 K mNeD E (tyD kInt tyStr) (tyD kInt tyStr) (fun a b=>.ok (!eqDm a b)) tyBl:=by
 rintro a b x y F H Q hs ⟨d1,ka,rfl,h1,r1⟩ ⟨d2,kb,rfl,h2,r2⟩ k
 exact ⟨ka,kb,hs _ _ h1,hs _ _ h2,zfr_ r1,zfr_ r2,k.ok hs _ (by show V.bl _=V.bl _; rw [ziI_ r1 r2])⟩
noncomputable def mIsaD:List V→Hp→VK→Prop:=fun xs H Q=>match xs with
 | [.ref p,.ty c]=>c = "dict" ∧ (∃ kvs,H p=some (.dK kvs))∧Q (.bl true) H
 | _=>False
theorem ze5_ {X:Cx}:CallR X (.builtin "isinstance") mIsaD:=by
 intro pins s σ H xs us Q I r h
 unfold mIsaD at h
 split at h
 ·obtain ⟨rfl,⟨kvs,hp⟩,q⟩:=h
  obtain ⟨u,w',rfl,r1,r2⟩:=vals2 r
  cases r2
  exact zcZ_ I r1 (.dK hp) (by unfold PySem.W.kitOne; rw [if_pos (by simp)]) fun tk=>⟨.bl true,H,I.tok tk,rfl,q⟩
 ·exact h.elim
theorem zhE_ {L:List Sl}{e:TE}{r:Mo (List (κ×α))}(h:EvF K e E L r (tyD KY T)):EvF K (tCB mIsaD (tCons e (tCons (tC (.ty "dict")) tNil))) E L (r.bind fun _=>.ok true) tyBl:=by
 intro σ F H Q hL hs q
 refine h σ F H _ hL hs (q.bind.imp fun l F1 H1 x1 k1 v hv=>?_)
 obtain ⟨p,kvs,rfl,hp,_⟩:=hv
 exact ⟨rfl,⟨kvs,x1.2.1 _ _ hp⟩,k1.ok x1.2.1 _ rfl⟩
theorem zga_ {a:Pas}{x:V}{H:Hp}(h:tyPass.R a x H):∃ p,x=.ref p:=by obtain ⟨p,e,_⟩:=h; exact ⟨p,e⟩
theorem ziC_:Op2 K (mEqK K) E tyPass tyPass (fun a b=>.ok (decide (a=b))) tyBl:=zjo_ zdT_ (by decide) zga_
theorem zg8_ {C:Cs γ}{n:Nat}(hn:CsN C n):Bl K (mLen K) E (csLast (tyTup C)) (fun _=>.ok (n:Int)) tyInt:=by
 rintro c vs F H Q hs ⟨v,rfl,p,us,rfl,h,r⟩ q
 exact ⟨us,.inr (.of (hs _ _ h)),q.ok hs _ (by rw [hn r])⟩
end
end L2
namespace K15
open PySem PySem.Spec PyProof.Rows L2
theorem S4 {a b c d:Sl}{L L':List Sl}(h:Sub L L'):Sub (a::b::c::d::L) (a::b::c::d::L'):=.same (.same (.same (.same h)))
noncomputable abbrev Qn0:List Str:=["_law_script", "_law_signs", "_law_ways", "_law_start", "_law_hero", "_law_reach", "_law_row", "_law_cell", "_law_spoilt", "_law_one", "_law_handed", "_law_first"]
noncomputable abbrev Qn1:List Str:=["_law_cell", "_law_hero", "_law_start", "_law_reach", "_law_share", "_law_signs", "_law_number", "_law_column"]
noncomputable abbrev Qn2:List Str:=["_law_key_here", "_law_picks_here", "_law_row", "_law_before", "_law_column", "_law_last", "_law_one"]
noncomputable abbrev Qn3:List Str:=["_law_cell", "_law_hero", "_law_start", "_law_reach", "_law_share"]
noncomputable abbrev Qn4:List Str:=["_law_found", "_law_row", "_law_picks_here", "_law_column", "_law_sign"]
noncomputable abbrev Qn5:List Str:=["_law_found"]
noncomputable abbrev Qn6:List Str:=["_law_key_here", "_law_picks_here", "_law_row"]
noncomputable abbrev Qn7:List Str:=["_law_script", "_law_k"]
noncomputable abbrev Qn8:List Str:=["_law_row", "_law_column", "_law_last", "_law_k"]
noncomputable abbrev Qn9:List Str:=["_law_row", "_law_picks_here", "_law_one"]
noncomputable abbrev Qq0:=(tyOpt (tyTup (csCons (tyD kInt tyStr) (csLast (tyL tyInt)))))
noncomputable abbrev Qq1:=(List (Int×(List Nat)))
noncomputable def zad_ (p_script:(List Int)) (p_k:Int):Mo (Out Int Unit Unit) :=
 (thenO (S:=Unit) (Mo.bind (Mo.bind (Mo.ok p_k) fun a_2=>Mo.bind (Mo.bind (Mo.ok p_script) fun c_1=>Mo.ok (c_1.length:Int)) fun b_3=>Mo.ok (decide (a_2<b_3))) fun c_4=>if c_4 then (Mo.bind (Mo.bind (Mo.ok p_script) fun a_6=>Mo.bind (Mo.ok p_k) fun b_7=>Mo.opt (atI a_6 b_7)) fun r_8=>Mo.ok (.rt r_8)) else (Mo.ok (.nx ()))) fun _=>(Mo.bind (Mo.ok (0:Int)) fun r_9=>Mo.ok (.rt r_9)))
noncomputable def zZ_ (p_script:(List Int)) (p_k:Int):Mo Int:=fnO (zad_ p_script p_k)
noncomputable def z6_ (p_row:(List Pas)):Mo (Out (Option Qq1) Unit Unit) :=
 (Mo.bind (Mo.ok ([]:Qq1)) fun signs_1=>(thenO (S:=Qq1) (Mo.bind (Mo.ok p_row) fun xs_18=>forO (fun (s_2:Qq1) x_3=>(thenO (S:=Qq1) (Mo.bind (Mo.bind (Mo.bind (Mo.ok x_3) fun a_4=>Mo.ok (pTag a_4)) fun a_5=>Mo.bind (Mo.ok ([112,105,99,107]:List Nat)) fun b_6=>Mo.ok (decide (a_5=b_6))) fun c_7=>if c_7 then (Mo.bind (Mo.bind (Mo.ok x_3) fun a_14=>Mo.ok a_14.1) fun k_9=>Mo.bind (Mo.bind (Mo.ok x_3) fun a_15=>Mo.opt a_15.2) fun d_10=>Mo.lim (s_2.length+1) (Mo.bind (Mo.ok (sdA s_2 k_9 d_10)) fun q_11=>Mo.bind (Mo.bind (Mo.ok x_3) fun a_16=>Mo.opt a_16.2) fun c_12=>Mo.bind (Mo.ok (!decide (q_11.1=c_12))) fun b_13=>if b_13 then (Mo.bind (Mo.ok (none:(Option Qq1))) fun r_17=>Mo.ok (.rt r_17)) else (Mo.ok (.nx q_11.2)))) else (Mo.ok (.nx s_2))) fun s_8=>(Mo.ok (.nx s_8)))) xs_18 signs_1) fun s_2=>(Mo.ok (.rt (some s_2)))))
noncomputable def zS_ (p_row:(List Pas)):Mo (Option Qq1):=fnO (z6_ p_row)
noncomputable def zaQ_ (p_row:(List Pas)):Mo (Out (Option (Qq1×(List Int))) Unit Unit) :=
 (Mo.bind (Mo.bind (Mo.ok p_row) fun c_3=>Mo.noex (zS_ c_3)) fun signs_2=>(thenO (S:=Unit) (Mo.bind (Mo.bind (Mo.ok signs_2) fun a_4=>Mo.bind (Mo.ok ()) fun b_5=>Mo.ok a_4.isNone) fun c_6=>if c_6 then (Mo.bind (Mo.ok (none:(Option (Qq1×(List Int))))) fun r_8=>Mo.ok (.rt r_8)) else (Mo.ok (.nx ()))) fun _=>(Mo.bind (Mo.opt signs_2) fun signs_9=>(Mo.bind (Mo.ok ([]:List Int)) fun columns_10=>(thenO (S:=(List Int)) (Mo.bind (Mo.bind (Mo.ok p_row) fun c_12=>Mo.ok c_12.reverse) fun xs_29=>forO (fun (s_11:(List Int)) x_13=>(thenO (S:=(List Int)) (Mo.bind (Mo.bind (Mo.bind (Mo.bind (Mo.ok x_13) fun a_14=>Mo.ok (pTag a_14)) fun a_15=>Mo.bind (Mo.ok ([100,101,97,108]:List Nat)) fun b_16=>Mo.ok (decide (a_15=b_16))) fun c_24=>if c_24 then (Mo.bind (Mo.bind (Mo.bind (Mo.ok x_13) fun a_17=>Mo.ok a_17.1) fun a_18=>Mo.bind (Mo.ok signs_9) fun b_19=>Mo.ok (if true then !(getA b_19 a_18).isSome else (getA b_19 a_18).isSome)) fun c_23=>if c_23 then (Mo.bind (Mo.bind (Mo.ok x_13) fun a_20=>Mo.ok a_20.1) fun a_21=>Mo.bind (Mo.ok s_11) fun b_22=>Mo.ok (!(b_22.any fun y=>decide (y=a_21)))) else Mo.ok false) else Mo.ok false) fun c_25=>if c_25 then (Mo.bind (Mo.bind (Mo.ok x_13) fun a_27=>Mo.ok a_27.1) fun a_28=>Mo.lim (s_11.length+1) (Mo.ok (.nx (s_11++[a_28])))) else (Mo.ok (.nx s_11))) fun s_26=>(Mo.ok (.nx s_26)))) xs_29 columns_10) fun s_11=>(Mo.ok (.rt (some (signs_9,s_11)))))))))
noncomputable def z3_ (p_row:(List Pas)):Mo (Option (Qq1×(List Int))):=fnO (zaQ_ p_row)
noncomputable def zae_ (p_found:(Option (Qq1×(List Int)))):Mo (Out (Unit×(Option (Qq1×(List Int)))) Unit (Option (Qq1×(List Int)))) :=
 (Mo.bind (Mo.bind (Mo.ok p_found) fun a_1=>Mo.bind (Mo.ok ()) fun b_2=>Mo.ok a_1.isSome) fun c_3=>if c_3 then (Mo.bind (Mo.ok ([88]:List Nat)) fun a_7=>Mo.bind (Mo.bind (Mo.bind (Mo.ok (p_found,fun (z:(Option (Qq1×(List Int))))=>z)) fun y_4=>Mo.bind (Mo.opt y_4.1) fun z_5=>Mo.ok (z_5,fun (z':(Qq1×(List Int)))=>y_4.2 (some z'))) fun y_6=>Mo.ok (y_6.1.1,fun (z':Qq1)=>y_6.2 (z',y_6.1.2))) fun y_8=>Mo.bind (Mo.ok (99:Int)) fun z_9=>Mo.lim (y_8.1.length+1) (Mo.bind (Mo.ok (y_8.2 (putA y_8.1 z_9 a_7))) fun x_10=>(Mo.bind (Mo.bind (Mo.bind (Mo.ok (x_10,fun (z:(Option (Qq1×(List Int))))=>z)) fun y_11=>Mo.bind (Mo.opt y_11.1) fun z_12=>Mo.ok (z_12,fun (z':(Qq1×(List Int)))=>y_11.2 (some z'))) fun y_13=>Mo.ok (y_13.1.2,fun (z':(List Int))=>y_13.2 (y_13.1.1,z'))) fun y_15=>Mo.bind (Mo.ok (0:Int)) fun a_14=>Mo.lim (y_15.1.length+1) (Mo.bind (Mo.ok (y_15.2 (y_15.1++[a_14]))) fun x_16=>(Mo.ok (.nx x_16)))))) else (Mo.ok (.nx p_found)))
noncomputable def z9_ (p_found:(Option (Qq1×(List Int)))):Mo (Unit×(Option (Qq1×(List Int)))):=fnMU (zae_ p_found)
noncomputable def zaF_ (p_row:(List Pas)):Mo (Out (Option Qq1) Unit Unit) :=
 (Mo.bind (Mo.ok ([]:Qq1)) fun picks_here_1=>(thenO (S:=Qq1) (Mo.bind (Mo.ok p_row) fun xs_26=>forO (fun (s_2:Qq1) x_3=>(thenO (S:=Qq1) (Mo.bind (Mo.bind (Mo.bind (Mo.ok x_3) fun a_4=>Mo.ok (pTag a_4)) fun a_5=>Mo.bind (Mo.ok ([112,105,99,107]:List Nat)) fun b_6=>Mo.ok (decide (a_5=b_6))) fun c_7=>if c_7 then (thenO (S:=Unit) (Mo.bind (Mo.bind (Mo.bind (Mo.bind (Mo.ok x_3) fun a_9=>Mo.ok a_9.1) fun a_10=>Mo.bind (Mo.ok s_2) fun b_11=>Mo.ok (if false then !(getA b_11 a_10).isSome else (getA b_11 a_10).isSome)) fun c_18=>if c_18 then (Mo.bind (Mo.bind (Mo.ok s_2) fun a_13=>Mo.bind (Mo.bind (Mo.ok x_3) fun a_12=>Mo.ok a_12.1) fun b_14=>Mo.opt (getA a_13 b_14)) fun a_16=>Mo.bind (Mo.bind (Mo.ok x_3) fun a_15=>Mo.opt a_15.2) fun b_17=>Mo.ok (!decide (a_16=b_17))) else Mo.ok false) fun c_19=>if c_19 then (Mo.bind (Mo.ok (none:(Option Qq1))) fun r_21=>Mo.ok (.rt r_21)) else (Mo.ok (.nx ()))) fun _=>(Mo.bind (Mo.bind (Mo.ok x_3) fun a_22=>Mo.opt a_22.2) fun a_24=>Mo.bind (Mo.bind (Mo.ok x_3) fun a_23=>Mo.ok a_23.1) fun y_25=>Mo.lim (s_2.length+1) (Mo.ok (.nx (putA s_2 y_25 a_24))))) else (Mo.ok (.nx s_2))) fun s_8=>(Mo.ok (.nx s_8)))) xs_26 picks_here_1) fun s_2=>(Mo.bind (Mo.bind (Mo.ok s_2) fun a_27=>Mo.ok (some a_27)) fun r_28=>Mo.ok (.rt r_28))))
noncomputable def zak_ (p_row:(List Pas)):Mo (Option Qq1):=fnO (zaF_ p_row)
noncomputable def zX_ (p_row:(List Pas)) (p_column:Int):Mo (Out Int Unit Unit) :=
 (Mo.bind (Mo.bind (Mo.ok (1:Int)) fun a_2=>Mo.ok (-a_2)) fun last_1=>(thenO (S:=Int) (Mo.bind (Mo.bind (Mo.bind (Mo.ok p_row) fun c_4=>Mo.ok (c_4.length:Int)) fun c_5=>Mo.grd (-(2 ^ 62)≤c_5∧c_5<2 ^ 62) (Mo.ok (rngI 0 c_5.toNat))) fun xs_15=>forO (fun (s_3:Int) x_6=>(thenO (S:=Int) (Mo.bind (Mo.bind (Mo.bind (Mo.ok p_row) fun a_7=>Mo.bind (Mo.ok x_6) fun b_8=>Mo.opt (atI a_7 b_8)) fun a_10=>Mo.bind (Mo.bind (Mo.ok p_column) fun a_9=>Mo.ok ((a_9,none):Pas)) fun b_11=>Mo.ok (decide (a_10=b_11))) fun c_12=>if c_12 then (Mo.bind (Mo.ok x_6) fun last_14=>(Mo.ok (.nx last_14))) else (Mo.ok (.nx s_3))) fun s_13=>(Mo.ok (.nx s_13)))) xs_15 last_1) fun s_3=>(Mo.bind (Mo.ok s_3) fun r_16=>Mo.ok (.rt r_16))))
noncomputable def zW_ (p_row:(List Pas)) (p_column:Int):Mo Int:=fnO (zX_ p_row p_column)
noncomputable def zaZ_ (p_found:Int):Mo (Out Bool Unit Unit) :=
 (Mo.bind (Mo.bind (Mo.bind (Mo.ok p_found) fun a_1=>Mo.ok true) fun c_4=>if c_4 then (Mo.bind (Mo.bind (Mo.ok p_found) fun a_2=>Mo.ok false) fun a_3=>Mo.ok (!a_3)) else Mo.ok false) fun r_5=>Mo.ok (.rt r_5))
noncomputable def zaH_ (p_found:Int):Mo Bool:=fnO (zaZ_ p_found)
noncomputable def za9_ (p_key_here:(List Int)) (p_picks_here:Qq1) (p_row:(List Pas)):Mo (Out Bool Unit Unit) :=
 (Mo.bind (Mo.bind (Mo.ok p_row) fun c_2=>Mo.ok (c_2.length:Int)) fun before_1=>(thenO (S:=Int) (Mo.bind (Mo.ok p_key_here) fun xs_26=>forO (fun (s_3:Int) x_4=>(thenO (S:=Unit) (Mo.bind (Mo.bind (Mo.bind (Mo.bind (Mo.ok x_4) fun c_5=>Mo.noex (zaH_ c_5)) fun a_6=>Mo.ok (!a_6)) fun c_9=>if c_9 then Mo.ok true else (Mo.bind (Mo.ok x_4) fun a_7=>Mo.bind (Mo.ok p_picks_here) fun b_8=>Mo.ok (if false then !(getA b_8 a_7).isSome else (getA b_8 a_7).isSome))) fun c_10=>if c_10 then (Mo.bind (Mo.ok false) fun r_12=>Mo.ok (.rt r_12)) else (Mo.ok (.nx ()))) fun _=>(Mo.bind (Mo.bind (Mo.bind (Mo.ok p_row) fun a_14=>Mo.bind (Mo.ok x_4) fun c_15=>Mo.ok (a_14,c_15)) fun c_16=>Mo.noex (zW_ c_16.1 c_16.2)) fun last_13=>(thenO (S:=Unit) (Mo.bind (Mo.bind (Mo.bind (Mo.ok last_13) fun a_17=>Mo.bind (Mo.ok (0:Int)) fun b_18=>Mo.ok (decide (a_17<b_18))) fun c_21=>if c_21 then Mo.ok true else (Mo.bind (Mo.ok last_13) fun a_19=>Mo.bind (Mo.ok s_3) fun b_20=>Mo.ok (decide (b_20≤a_19)))) fun c_22=>if c_22 then (Mo.bind (Mo.ok false) fun r_24=>Mo.ok (.rt r_24)) else (Mo.ok (.nx ()))) fun _=>(Mo.bind (Mo.ok last_13) fun before_25=>(Mo.ok (.nx before_25))))))) xs_26 before_1) fun s_3=>(thenO (S:=Unit) (Mo.bind (Mo.ok p_row) fun xs_42=>forO (fun (_:Unit) x_28=>(Mo.bind (Mo.bind (Mo.bind (Mo.bind (Mo.ok x_28) fun a_29=>Mo.ok (pTag a_29)) fun a_30=>Mo.bind (Mo.ok ([100,101,97,108]:List Nat)) fun b_31=>Mo.ok (decide (a_30=b_31))) fun c_39=>if c_39 then (Mo.bind (Mo.bind (Mo.bind (Mo.ok x_28) fun a_32=>Mo.ok a_32.1) fun a_33=>Mo.bind (Mo.ok p_picks_here) fun b_34=>Mo.ok (if true then !(getA b_34 a_33).isSome else (getA b_34 a_33).isSome)) fun c_38=>if c_38 then (Mo.bind (Mo.bind (Mo.ok x_28) fun a_35=>Mo.ok a_35.1) fun a_36=>Mo.bind (Mo.ok p_key_here) fun b_37=>Mo.ok (!(b_37.any fun y=>decide (y=a_36)))) else Mo.ok false) else Mo.ok false) fun c_40=>if c_40 then (Mo.bind (Mo.ok false) fun r_41=>Mo.ok (.rt r_41)) else (Mo.ok (.nx ())))) xs_42 ()) fun _=>(Mo.bind (Mo.ok true) fun r_43=>Mo.ok (.rt r_43)))))
noncomputable def zbc_ (p_key_here:(List Int)) (p_picks_here:Qq1) (p_row:(List Pas)):Mo Bool:=fnO (za9_ p_key_here p_picks_here p_row)
noncomputable def zaA_ (p_found:(Option (Qq1×(List Int)))) (p_row:(List Pas)):Mo (Out Bool Unit Unit) :=
 (Mo.bind (Mo.bind (Mo.ok p_row) fun c_3=>Mo.noex (zak_ c_3)) fun picks_here_2=>(thenO (S:=Unit) (Mo.bind (Mo.bind (Mo.ok picks_here_2) fun a_4=>Mo.bind (Mo.ok ()) fun b_5=>Mo.ok a_4.isNone) fun c_6=>if c_6 then (Mo.bind (Mo.bind (Mo.ok p_found) fun a_8=>Mo.bind (Mo.ok ()) fun b_9=>Mo.ok a_8.isNone) fun r_10=>Mo.ok (.rt r_10)) else (Mo.ok (.nx ()))) fun _=>(Mo.bind (Mo.opt picks_here_2) fun picks_here_11=>(thenO (S:=Unit) (Mo.bind (Mo.bind (Mo.bind (Mo.bind (Mo.ok p_found) fun a_12=>Mo.ok (a_12.isSome && true)) fun a_13=>Mo.ok (!a_13)) fun c_18=>if c_18 then Mo.ok true else (Mo.bind (Mo.bind (Mo.bind (Mo.ok p_found) fun a_14=>Mo.opt a_14) fun c_15=>Mo.ok (2:Int)) fun a_16=>Mo.bind (Mo.ok (2:Int)) fun b_17=>Mo.ok (!decide (a_16=b_17)))) fun c_19=>if c_19 then (Mo.bind (Mo.ok false) fun r_21=>Mo.ok (.rt r_21)) else (Mo.ok (.nx ()))) fun _=>(thenO (S:=Unit) (Mo.bind (Mo.bind (Mo.bind (Mo.bind (Mo.bind (Mo.bind (Mo.ok p_found) fun a_22=>Mo.opt a_22) fun a_23=>Mo.ok a_23.1) fun a_24=>Mo.ok true) fun a_25=>Mo.ok (!a_25)) fun c_35=>if c_35 then Mo.ok true else (Mo.bind (Mo.bind (Mo.bind (Mo.bind (Mo.bind (Mo.ok p_found) fun a_26=>Mo.opt a_26) fun a_27=>Mo.ok a_27.2) fun a_28=>Mo.ok true) fun a_29=>Mo.ok (!a_29)) fun c_34=>if c_34 then Mo.ok true else (Mo.bind (Mo.bind (Mo.bind (Mo.ok p_found) fun a_30=>Mo.opt a_30) fun a_31=>Mo.ok a_31.1) fun a_32=>Mo.bind (Mo.ok picks_here_11) fun b_33=>Mo.ok (!eqDm a_32 b_33)))) fun c_36=>if c_36 then (Mo.bind (Mo.ok false) fun r_38=>Mo.ok (.rt r_38)) else (Mo.ok (.nx ()))) fun _=>(thenO (S:=Unit) (Mo.bind (Mo.bind (Mo.bind (Mo.ok p_found) fun a_40=>Mo.opt a_40) fun a_41=>Mo.ok a_41.1) fun xs_51=>forO (fun (_:Unit) x_42=>Mo.noex (Mo.bind (Mo.bind (Mo.bind (Mo.bind (Mo.ok x_42.1) fun c_44=>Mo.noex (zaH_ c_44)) fun a_45=>Mo.ok (!a_45)) fun c_48=>if c_48 then Mo.ok true else (Mo.bind (Mo.bind (Mo.ok x_42.2) fun a_46=>Mo.ok true) fun a_47=>Mo.ok (!a_47))) fun c_49=>if c_49 then (Mo.bind (Mo.ok false) fun r_50=>Mo.ok (.rt r_50)) else (Mo.ok (.nx ())))) xs_51 ()) fun _=>(Mo.bind (Mo.bind (Mo.bind (Mo.bind (Mo.bind (Mo.ok p_found) fun a_52=>Mo.opt a_52) fun a_53=>Mo.ok a_53.2) fun a_56=>Mo.bind (Mo.bind (Mo.ok picks_here_11) fun a_54=>Mo.bind (Mo.ok p_row) fun c_55=>Mo.ok (a_54,c_55)) fun c_57=>Mo.ok (a_56,c_57)) fun c_58=>Mo.noex (zbc_ c_58.1 c_58.2.1 c_58.2.2)) fun r_59=>Mo.ok (.rt r_59))))))))
noncomputable def z0_ (p_found:(Option (Qq1×(List Int)))) (p_row:(List Pas)):Mo Bool:=fnO (zaA_ p_found p_row)
noncomputable def zaN_ (p_cell:Int) (p_hero:(List Nat)) (p_start:Int) (p_reach:Int) (p_share:Int):Mo (Out Pas Unit Unit) :=
 (Mo.bind (Mo.ok (SG:List Nat)) fun signs_1=>(Mo.bind (Mo.bind (Mo.bind (Mo.ok p_cell) fun a_3=>Mo.bind (Mo.ok (2147483647:Int)) fun b_4=>Mo.grd (0<b_4) (Mo.ok (a_3 % b_4))) fun a_5=>Mo.bind (Mo.ok (69621:Int)) fun b_6=>Mo.ok (a_5+b_6)) fun number_2=>(Mo.bind (Mo.bind (Mo.bind (Mo.ok number_2) fun a_8=>Mo.bind (Mo.ok number_2) fun b_9=>Mo.grd (IntMulOk a_8 b_9) (Mo.ok (a_8*b_9))) fun a_10=>Mo.bind (Mo.ok (2147483629:Int)) fun b_11=>Mo.grd (0<b_11) (Mo.ok (a_10 % b_11))) fun number_7=>(Mo.bind (Mo.bind (Mo.ok (1:Int)) fun a_21=>Mo.bind (Mo.bind (Mo.bind (Mo.ok p_start) fun a_17=>Mo.bind (Mo.bind (Mo.bind (Mo.ok number_7) fun a_13=>Mo.bind (Mo.ok (8:Int)) fun b_14=>Mo.grd (CDivG a_13 b_14) (Mo.ok (a_13 / b_14))) fun a_15=>Mo.bind (Mo.ok p_reach) fun b_16=>Mo.grd (0<b_16) (Mo.ok (a_15 % b_16))) fun b_18=>Mo.ok (a_17+b_18)) fun a_19=>Mo.bind (Mo.ok (36:Int)) fun b_20=>Mo.grd (0<b_20) (Mo.ok (a_19 % b_20))) fun b_22=>Mo.ok (a_21+b_22)) fun column_12=>(thenO (S:=Unit) (Mo.bind (Mo.bind (Mo.bind (Mo.ok number_7) fun a_23=>Mo.bind (Mo.ok (8:Int)) fun b_24=>Mo.grd (0<b_24) (Mo.ok (a_23 % b_24))) fun a_25=>Mo.bind (Mo.ok p_share) fun b_26=>Mo.ok (decide (b_26≤a_25))) fun c_27=>if c_27 then (Mo.bind (Mo.bind (Mo.ok column_12) fun a_29=>Mo.ok ((a_29,none):Pas)) fun r_30=>Mo.ok (.rt r_30)) else (Mo.ok (.nx ()))) fun _=>(thenO (S:=Unit) (Mo.bind (Mo.bind (Mo.bind (Mo.bind (Mo.ok number_7) fun a_31=>Mo.bind (Mo.ok (512:Int)) fun b_32=>Mo.grd (CDivG a_31 b_32) (Mo.ok (a_31 / b_32))) fun a_33=>Mo.bind (Mo.ok (7:Int)) fun b_34=>Mo.grd (0<b_34) (Mo.ok (a_33 % b_34))) fun a_35=>Mo.bind (Mo.ok (1:Int)) fun b_36=>Mo.ok (decide (a_35=b_36))) fun c_37=>if c_37 then (Mo.bind (Mo.bind (Mo.ok column_12) fun a_45=>Mo.bind (Mo.bind (Mo.ok signs_1) fun a_43=>Mo.bind (Mo.bind (Mo.bind (Mo.ok number_7) fun a_39=>Mo.bind (Mo.ok (4096:Int)) fun b_40=>Mo.grd (CDivG a_39 b_40) (Mo.ok (a_39 / b_40))) fun a_41=>Mo.bind (Mo.ok (37:Int)) fun b_42=>Mo.grd (0<b_42) (Mo.ok (a_41 % b_42))) fun b_44=>Mo.lim a_43.length (Mo.opt ((atI a_43 b_44).map fun c=>[c]))) fun b_46=>Mo.ok (a_45,some b_46)) fun r_47=>Mo.ok (.rt r_47)) else (Mo.ok (.nx ()))) fun _=>(Mo.bind (Mo.bind (Mo.ok column_12) fun a_52=>Mo.bind (Mo.bind (Mo.ok p_hero) fun a_50=>Mo.bind (Mo.bind (Mo.ok column_12) fun a_48=>Mo.bind (Mo.ok (1:Int)) fun b_49=>Mo.ok (a_48-b_49)) fun b_51=>Mo.lim a_50.length (Mo.opt ((atI a_50 b_51).map fun c=>[c]))) fun b_53=>Mo.ok (a_52,some b_53)) fun r_54=>Mo.ok (.rt r_54))))))))
noncomputable def zaV_ (p_cell:Int) (p_hero:(List Nat)) (p_start:Int) (p_reach:Int) (p_share:Int):Mo Pas:=fnO (zaN_ p_cell p_hero p_start p_reach p_share)
noncomputable def ziq_ (p_script:(List Int)):Mo (Out Bool Unit Unit) :=
 (Mo.bind (Mo.ok (SG:List Nat)) fun signs_1=>(Mo.bind (Mo.bind (Mo.bind (Mo.ok p_script) fun a_3=>Mo.bind (Mo.ok (0:Int)) fun c_4=>Mo.ok (a_3,c_4)) fun c_5=>Mo.noex (zZ_ c_5.1 c_5.2)) fun ways_2=>(Mo.bind (Mo.bind (Mo.bind (Mo.bind (Mo.ok p_script) fun a_7=>Mo.bind (Mo.ok (1:Int)) fun c_8=>Mo.ok (a_7,c_8)) fun c_9=>Mo.noex (zZ_ c_9.1 c_9.2)) fun a_10=>Mo.bind (Mo.ok (36:Int)) fun b_11=>Mo.grd (0<b_11) (Mo.ok (a_10 % b_11))) fun start_6=>(Mo.bind (Mo.bind (Mo.bind (Mo.ok signs_1) fun a_14=>Mo.bind (Mo.bind (Mo.ok start_6) fun i_13=>Mo.ok (some i_13)) fun b_15=>Mo.bind (Mo.ok none) fun d_16=>Mo.lim a_14.length (Mo.ok (cutG a_14 b_15 d_16))) fun a_21=>Mo.bind (Mo.bind (Mo.ok signs_1) fun a_18=>Mo.bind (Mo.ok none) fun b_19=>Mo.bind (Mo.bind (Mo.ok start_6) fun i_17=>Mo.ok (some i_17)) fun d_20=>Mo.lim a_18.length (Mo.ok (cutG a_18 b_19 d_20))) fun b_22=>Mo.lim (a_21.length+b_22.length) (Mo.ok (a_21++b_22))) fun hero_12=>(Mo.bind (Mo.bind (Mo.bind (Mo.bind (Mo.ok (2:Int)) fun a_28=>Mo.bind (Mo.bind (Mo.ok (1:Int)) fun a_26=>Mo.bind (Mo.bind (Mo.ok (4:Int)) fun a_24=>Mo.bind (Mo.ok (36:Int)) fun c_25=>Mo.ok (a_24,c_25)) fun c_27=>Mo.ok (a_26,c_27)) fun c_29=>Mo.ok (a_28,c_29)) fun c_30=>Mo.ok [c_30.1,c_30.2.1,c_30.2.2.1,c_30.2.2.2]) fun a_33=>Mo.bind (Mo.bind (Mo.ok ways_2) fun a_31=>Mo.bind (Mo.ok (4:Int)) fun b_32=>Mo.grd (0<b_32) (Mo.ok (a_31 % b_32))) fun b_34=>Mo.opt (atI a_33 b_34)) fun reach_23=>(Mo.bind (Mo.ok ([]:List Pas)) fun row_35=>(thenO (S:=(List Pas)) (Mo.bind (Mo.bind (Mo.ok p_script) fun a_39=>Mo.bind (Mo.bind (Mo.ok (2:Int)) fun i_37=>Mo.ok (some i_37)) fun b_40=>Mo.bind (Mo.bind (Mo.ok (102:Int)) fun i_38=>Mo.ok (some i_38)) fun d_41=>Mo.ok (cutG a_39 b_40 d_41)) fun xs_64=>forO (fun (s_36:(List Pas)) x_42=>(Mo.bind (Mo.bind (Mo.bind (Mo.ok x_42) fun a_60=>Mo.bind (Mo.bind (Mo.ok hero_12) fun a_58=>Mo.bind (Mo.bind (Mo.ok start_6) fun a_56=>Mo.bind (Mo.bind (Mo.ok reach_23) fun a_54=>Mo.bind (Mo.bind (Mo.bind (Mo.bind (Mo.ok (2:Int)) fun a_45=>Mo.bind (Mo.bind (Mo.ok (0:Int)) fun a_43=>Mo.bind (Mo.ok (4:Int)) fun c_44=>Mo.ok (a_43,c_44)) fun c_46=>Mo.ok (a_45,c_46)) fun c_47=>Mo.ok [c_47.1,c_47.2.1,c_47.2.2]) fun a_52=>Mo.bind (Mo.bind (Mo.bind (Mo.ok ways_2) fun a_48=>Mo.bind (Mo.ok (4:Int)) fun b_49=>Mo.grd (CDivG a_48 b_49) (Mo.ok (a_48 / b_49))) fun a_50=>Mo.bind (Mo.ok (3:Int)) fun b_51=>Mo.grd (0<b_51) (Mo.ok (a_50 % b_51))) fun b_53=>Mo.opt (atI a_52 b_53)) fun c_55=>Mo.ok (a_54,c_55)) fun c_57=>Mo.ok (a_56,c_57)) fun c_59=>Mo.ok (a_58,c_59)) fun c_61=>Mo.ok (a_60,c_61)) fun c_62=>Mo.noex (zaV_ c_62.1 c_62.2.1 c_62.2.2.1 c_62.2.2.2.1 c_62.2.2.2.2)) fun a_63=>Mo.lim (s_36.length+1) (Mo.ok (.nx (s_36++[a_63]))))) xs_64 row_35) fun s_36=>(Mo.bind (Mo.bind (Mo.ok s_36) fun c_66=>Mo.ok c_66) fun spoilt_65=>(thenO (S:=(List Pas)) (Mo.bind (Mo.ok s_36) fun xs_100=>forO (fun (s_67:(List Pas)) x_68=>(thenO (S:=(List Pas)) (Mo.bind (Mo.bind (Mo.bind (Mo.bind (Mo.ok x_68) fun a_69=>Mo.ok (pTag a_69)) fun a_70=>Mo.bind (Mo.ok ([112,105,99,107]:List Nat)) fun b_71=>Mo.ok (decide (a_70=b_71))) fun c_75=>if c_75 then (Mo.bind (Mo.bind (Mo.ok s_67) fun c_72=>Mo.ok (c_72.length:Int)) fun a_73=>Mo.bind (Mo.ok (100:Int)) fun b_74=>Mo.ok (decide (a_73<b_74))) else Mo.ok false) fun c_76=>if c_76 then (Mo.bind (Mo.bind (Mo.ok s_36) fun a_98=>Mo.bind (Mo.bind (Mo.bind (Mo.bind (Mo.ok x_68) fun a_79=>Mo.ok a_79.1) fun a_95=>Mo.bind (Mo.bind (Mo.ok signs_1) fun a_93=>Mo.bind (Mo.bind (Mo.bind (Mo.bind (Mo.bind (Mo.ok signs_1) fun a_81=>Mo.bind (Mo.bind (Mo.ok x_68) fun a_80=>Mo.opt a_80.2) fun b_82=>Mo.ok (findS a_81 b_82)) fun a_83=>Mo.bind (Mo.ok (1:Int)) fun b_84=>Mo.ok (a_83+b_84)) fun a_89=>Mo.bind (Mo.bind (Mo.bind (Mo.ok ways_2) fun a_85=>Mo.bind (Mo.ok (12:Int)) fun b_86=>Mo.grd (CDivG a_85 b_86) (Mo.ok (a_85 / b_86))) fun a_87=>Mo.bind (Mo.ok (36:Int)) fun b_88=>Mo.grd (0<b_88) (Mo.ok (a_87 % b_88))) fun b_90=>Mo.ok (a_89+b_90)) fun a_91=>Mo.bind (Mo.ok (37:Int)) fun b_92=>Mo.grd (0<b_92) (Mo.ok (a_91 % b_92))) fun b_94=>Mo.lim a_93.length (Mo.opt ((atI a_93 b_94).map fun c=>[c]))) fun b_96=>Mo.ok (a_95,some b_96)) fun c_97=>Mo.ok [c_97]) fun b_99=>Mo.lim (a_98.length+b_99.length) (Mo.ok (a_98++b_99))) fun spoilt_78=>(Mo.ok (.nx spoilt_78))) else (Mo.ok (.nx s_67))) fun s_77=>(Mo.ok (.nx s_77)))) xs_100 spoilt_65) fun s_67=>(Mo.bind (Mo.bind (Mo.ok s_36) fun c_102=>Mo.ok c_102) fun handed_101=>(Mo.bind (Mo.bind (Mo.ok handed_101) fun c_105=>Mo.noex (z3_ c_105)) fun first_104=>(thenO (S:=Unit) (Mo.bind (Mo.bind (Mo.bind (Mo.bind (Mo.bind (Mo.ok first_104) fun a_106=>Mo.bind (Mo.ok s_36) fun c_107=>Mo.ok (a_106,c_107)) fun c_108=>Mo.noex (z0_ c_108.1 c_108.2)) fun a_109=>Mo.ok (!a_109)) fun c_112=>if c_112 then Mo.ok true else (Mo.bind (Mo.ok handed_101) fun a_110=>Mo.bind (Mo.ok s_36) fun b_111=>Mo.ok (!((eqL (fun a b=>decide (a=b))) a_110 b_111)))) fun c_113=>if c_113 then (Mo.bind (Mo.ok false) fun r_115=>Mo.ok (.rt r_115)) else (Mo.ok (.nx ()))) fun _=>(thenO (S:=Unit) (Mo.bind (Mo.bind (Mo.bind (Mo.bind (Mo.bind (Mo.bind (Mo.ok s_67) fun c_116=>Mo.noex (z3_ c_116)) fun a_117=>Mo.bind (Mo.ok s_67) fun c_118=>Mo.ok (a_117,c_118)) fun c_119=>Mo.noex (z0_ c_119.1 c_119.2)) fun a_120=>Mo.ok (!a_120)) fun c_125=>if c_125 then Mo.ok true else (Mo.bind (Mo.bind (Mo.bind (Mo.ok first_104) fun a_121=>Mo.bind (Mo.ok s_36) fun c_122=>Mo.ok (a_121,c_122)) fun c_123=>Mo.noex (z0_ c_123.1 c_123.2)) fun a_124=>Mo.ok (!a_124))) fun c_126=>if c_126 then (Mo.bind (Mo.ok false) fun r_128=>Mo.ok (.rt r_128)) else (Mo.ok (.nx ()))) fun _=>(Mo.bind (Mo.ok (first_104,fun (z:(Option (Qq1×(List Int))))=>z)) fun y_129=>Mo.bind (Mo.ok ()) fun c_130=>Mo.bind (Mo.noex (z9_ y_129.1)) fun q_131=>Mo.bind (Mo.ok (y_129.2 q_131.2)) fun x_132=>(Mo.bind (Mo.bind (Mo.ok (36:Int)) fun a_133=>Mo.ok ((a_133,none):Pas)) fun a_134=>Mo.lim (handed_101.length+1) (Mo.bind (Mo.bind (Mo.bind (Mo.bind (Mo.ok s_36) fun c_135=>Mo.noex (z3_ c_135)) fun a_136=>Mo.bind (Mo.ok s_36) fun c_137=>Mo.ok (a_136,c_137)) fun c_138=>Mo.noex (z0_ c_138.1 c_138.2)) fun r_139=>Mo.ok (.rt r_139)))))))))))))))))
noncomputable def zim_ (p_script:(List Int)):Mo Bool:=fnO (ziq_ p_script)
end K15
namespace K15
open PySem PySem.Spec PyProof.Rows L2
noncomputable def top (i:Nat):Stmt:=PySem.Challenge.pw_cardshop_k15_senses.main.body.getD i (.Pass ⟨0,0,0,0⟩)
noncomputable abbrev zu_:Stmt:=top 4
noncomputable abbrev zq_:Stmt:=top 1
noncomputable abbrev zP_:Stmt:=top 2
noncomputable abbrev zs_:Stmt:=top 11
noncomputable abbrev zD_:Stmt:=top 7
noncomputable abbrev zh_:Stmt:=top 8
noncomputable abbrev zB_:Stmt:=top 6
noncomputable abbrev z7_:Stmt:=top 9
noncomputable abbrev zQ_:Stmt:=top 10
noncomputable abbrev zN_:Stmt:=top 5
noncomputable abbrev zdH_:Stmt:=top 12
noncomputable def zj_ (K:Fgg):Sp:=Ct K (csCons (tySc K) (csLast tyInt)) (fun c=>zZ_ c.1 c.2) (owF tyInt)
noncomputable def zi_ (K:Fgg):Sp:=Ct K (csLast (tyL tyPass)) (fun c=>zS_ c) (owOpt (owD kInt tyStr))
noncomputable def zw_ (K:Fgg):Sp:=Ct K (csLast (tyL tyPass)) (fun c=>z3_ c) (owOpt (owT2 (owD kInt tyStr) (owL tyInt)))
noncomputable def zn_ (K:Fgg):Sp:=CtM K (owOpt (owT2 (owD kInt tyStr) (owL tyInt))) (owOpt (owT2 (owD kInt tyStr) (owL tyInt))) csNil (fun x c=>z9_ x) (owF tyNon)
noncomputable def zy_ (K:Fgg):Sp:=Ct K (csLast (tyL tyPass)) (fun c=>zak_ c) (owF (tyOpt (tyD kInt tyStr)))
noncomputable def zg_ (K:Fgg):Sp:=Ct K (csCons (tyL tyPass) (csLast tyInt)) (fun c=>zW_ c.1 c.2) (owF tyInt)
noncomputable def zk_ (K:Fgg):Sp:=Ct K (csLast tyInt) (fun c=>zaH_ c) (owF tyBl)
noncomputable def zO_ (K:Fgg):Sp:=Ct K (csCons (tyL tyInt) (csCons (tyD kInt tyStr) (csLast (tyL tyPass)))) (fun c=>zbc_ c.1 c.2.1 c.2.2) (owF tyBl)
noncomputable def zr_ (K:Fgg):Sp:=Ct K (csCons Qq0 (csLast (tyL tyPass))) (fun c=>z0_ c.1 c.2) (owF tyBl)
noncomputable def zF_ (K:Fgg):Sp:=Ct K (csCons tyInt (csCons tyStr (csCons tyInt (csCons tyInt (csLast tyInt))))) (fun c=>zaV_ c.1 c.2.1 c.2.2.1 c.2.2.2.1 c.2.2.2.2) (owF tyPass)
noncomputable def zcg_ (K:Fgg):Sp:=fun vs H Q _=>∃ (a:Addr) (ns:List Int),vs=[.ref a]∧SqL K H a (ns.map V.int)∧ns.length≤63∧BitsOk ns∧∀ H',Q (.bl true) H'
noncomputable def z2_ (K:Fgg):TS:=(tSeq (mIfS (mTest (tOp (mLtK K) (mVar 1) (tCB (mLen K) (tCons (mVar 0) tNil)))) (tRet (tOp (mIx K) (mVar 0) (mVar 1))) tNext) (tRet (tC (.int 0))))
noncomputable abbrev RD_law_cell_at (K:Fgg):Prop:=∀ vs H Q E,zj_ K vs H Q E→z2_ K { nx:=fun _ H'=>Q .non H',rt:=Q } (start Qn7 vs) H
theorem zby_ {K:Fgg}:∀ vs H Q E,zj_ K vs H Q E→vs.length=2:=by
 rintro vs H Q E ⟨F,c,_,hc,_⟩; exact ((zl_ zo_):CsN (csCons (tySc K) (csLast tyInt)) 2) hc
noncomputable def zM_ (K:Fgg):TS:=(tSeq (tAsg tDNewK (gName 1)) (tSeq (tFor (iAny K (mVar 0)) (gName 2) (mIfS (mTest (tOp (mEqK K) (tOp (mIx K) (mVar 2) (tC (.int 0))) (tC (tx [112,105,99,107])))) (mIfS (mTest (tOp (mNeK K) (mSetD (mVar 1) (tOp (mIx K) (mVar 2) (tC (.int 1))) (tOp (mIx K) (mVar 2) (tC (.int 2)))) (tOp (mIx K) (mVar 2) (tC (.int 2))))) (tRet (tC .non)) tNext) tNext)) (tRet (mVar 1))))
noncomputable abbrev RD_picked_signs (K:Fgg):Prop:=∀ vs H Q E,zi_ K vs H Q E→zM_ K { nx:=fun _ H'=>Q .non H',rt:=Q } (start ["row", "signs", "step"] vs) H
theorem zbu_ {K:Fgg}:∀ vs H Q E,zi_ K vs H Q E→vs.length=1:=by
 rintro vs H Q E ⟨F,c,_,hc,_⟩; exact (zo_:CsN (csLast (tyL tyPass)) 1) hc
noncomputable def zaB_ (K:Fgg):TS:=(tSeq (tAsg (tCall (zi_ K) [] E0 (tCons (mVar 0) tNil)) (gName 1)) (tSeq (mIfS (mTest (tOp mIs (mVar 1) (tC .non))) (tRet (tC .non)) tNext) (tSeq (tAsg (tLst tNil) (gName 2)) (tSeq (tFor (iRev K (tCons (mVar 0) tNil)) (gName 3) (mIfS (mAnd (mTest (tOp (mEqK K) (tOp (mIx K) (mVar 3) (tC (.int 0))) (tC (tx [100,101,97,108])))) (mAnd (mTest (mDIn true (tOp (mIx K) (mVar 3) (tC (.int 1))) (mVar 1))) (mTest (tOp (mIn K true) (tOp (mIx K) (mVar 3) (tC (.int 1))) (mVar 2))))) (tDrop (tBM K "list" rAppend (mVar 2) (tCons (tOp (mIx K) (mVar 3) (tC (.int 1))) tNil))) tNext)) (tRet (tTup (tCons (mVar 1) (tCons (mVar 2) tNil))))))))
noncomputable abbrev RD_sense_of (K:Fgg):Prop:=∀ vs H Q E,zw_ K vs H Q E→zaB_ K { nx:=fun _ H'=>Q .non H',rt:=Q } (start ["row", "signs", "columns", "step"] vs) H
theorem zcS_ {K:Fgg}:∀ vs H Q E,zw_ K vs H Q E→vs.length=1:=by
 rintro vs H Q E ⟨F,c,_,hc,_⟩; exact (zo_:CsN (csLast (tyL tyPass)) 1) hc
noncomputable def z1_ (K:Fgg):TS:=(mIfS (mTest (tOp mIsNot (mVar 0) (tC .non))) (tSeq (mDPut (tOp (mIx K) (mVar 0) (tC (.int 0))) (tC (.int 99)) (tC (tx [88]))) (tDrop (tBM K "list" rAppend (tOp (mIx K) (mVar 0) (tC (.int 1))) (tCons (tC (.int 0)) tNil)))) tNext)
noncomputable abbrev RD_law_changed (K:Fgg):Prop:=∀ vs H Q E,zn_ K vs H Q E→z1_ K { nx:=fun _ H'=>Q .non H',rt:=Q } (start Qn5 vs) H
theorem zbE_ {K:Fgg}:∀ vs H Q E,zn_ K vs H Q E→vs.length=1:=by
 rintro vs H Q E ⟨F,h,x,c,w,ws,rfl,_,_,_,_,hc,_⟩; rw [List.length_cons,(zfx_:CsN csNil 0) hc]
noncomputable def zal_ (K:Fgg):TS:=(tSeq (tAsg tDNewK (gName 1)) (tSeq (tFor (iAny K (mVar 0)) (gName 2) (mIfS (mTest (tOp (mEqK K) (tOp (mIx K) (mVar 2) (tC (.int 0))) (tC (tx [112,105,99,107])))) (tSeq (mIfS (mAnd (mTest (mDIn false (tOp (mIx K) (mVar 2) (tC (.int 1))) (mVar 1))) (mTest (tOp (mNeK K) (mDGet (mVar 1) (tOp (mIx K) (mVar 2) (tC (.int 1)))) (tOp (mIx K) (mVar 2) (tC (.int 2)))))) (tRet (tC .non)) tNext) (mDPut (mVar 1) (tOp (mIx K) (mVar 2) (tC (.int 1))) (tOp (mIx K) (mVar 2) (tC (.int 2))))) tNext)) (tRet (mVar 1))))
noncomputable abbrev RD_law_picks (K:Fgg):Prop:=∀ vs H Q E,zy_ K vs H Q E→zal_ K { nx:=fun _ H'=>Q .non H',rt:=Q } (start Qn9 vs) H
theorem zcp_ {K:Fgg}:∀ vs H Q E,zy_ K vs H Q E→vs.length=1:=by
 rintro vs H Q E ⟨F,c,_,hc,_⟩; exact (zo_:CsN (csLast (tyL tyPass)) 1) hc
noncomputable def zJ_ (K:Fgg):TS:=(tSeq (tAsg (mNeg (tC (.int 1))) (gName 2)) (tSeq (tFor (mRng1 (tCons (tCB (mLen K) (tCons (mVar 0) tNil)) tNil)) (gName 3) (mIfS (mTest (tOp (mEqK K) (tOp (mIx K) (mVar 0) (mVar 3)) (tTup (tCons (tC (tx [100,101,97,108])) (tCons (mVar 1) tNil))))) (tAsg (mVar 3) (gName 2)) tNext)) (tRet (mVar 2))))
noncomputable abbrev RD_law_last_deal (K:Fgg):Prop:=∀ vs H Q E,zg_ K vs H Q E→zJ_ K { nx:=fun _ H'=>Q .non H',rt:=Q } (start Qn8 vs) H
theorem za8_ {K:Fgg}:∀ vs H Q E,zg_ K vs H Q E→vs.length=2:=by
 rintro vs H Q E ⟨F,c,_,hc,_⟩; exact ((zl_ zo_):CsN (csCons (tyL tyPass) (csLast tyInt)) 2) hc
noncomputable def zao_ (K:Fgg):TS:=(tRet (mAndV (tCB (mIsa K) (tCons (mVar 0) (tCons (tC (.ty "int")) tNil))) (mNotV (tCB (mIsa K) (tCons (mVar 0) (tCons (tC (.ty "bool")) tNil))))))
noncomputable abbrev RD_law_whole (K:Fgg):Prop:=∀ vs H Q E,zk_ K vs H Q E→zao_ K { nx:=fun _ H'=>Q .non H',rt:=Q } (start Qn5 vs) H
theorem zce_ {K:Fgg}:∀ vs H Q E,zk_ K vs H Q E→vs.length=1:=by
 rintro vs H Q E ⟨F,c,_,hc,_⟩; exact (zo_:CsN (csLast tyInt) 1) hc
noncomputable def zaM_ (K:Fgg):TS:=(tSeq (tAsg (tCB (mLen K) (tCons (mVar 2) tNil)) (gName 3)) (tSeq (tFor (iAny K (mVar 0)) (gName 4) (tSeq (mIfS (mOr (tNot (mTest (tCall (zk_ K) [] E0 (tCons (mVar 4) tNil)))) (mTest (mDIn false (mVar 4) (mVar 1)))) (tRet (tC (.bl false))) tNext) (tSeq (tAsg (tCall (zg_ K) [] E0 (tCons (mVar 2) (tCons (mVar 4) tNil))) (gName 5)) (tSeq (mIfS (mOr (mTest (tOp (mLtK K) (mVar 5) (tC (.int 0)))) (mTest (tOp mGe (mVar 5) (mVar 3)))) (tRet (tC (.bl false))) tNext) (tAsg (mVar 5) (gName 3)))))) (tSeq (tFor (iAny K (mVar 2)) (gName 6) (mIfS (mAnd (mTest (tOp (mEqK K) (tOp (mIx K) (mVar 6) (tC (.int 0))) (tC (tx [100,101,97,108])))) (mAnd (mTest (mDIn true (tOp (mIx K) (mVar 6) (tC (.int 1))) (mVar 1))) (mTest (tOp (mIn K true) (tOp (mIx K) (mVar 6) (tC (.int 1))) (mVar 0))))) (tRet (tC (.bl false))) tNext)) (tRet (tC (.bl true))))))
noncomputable abbrev RD_law_key (K:Fgg):Prop:=∀ vs H Q E,zO_ K vs H Q E→zaM_ K { nx:=fun _ H'=>Q .non H',rt:=Q } (start Qn2 vs) H
theorem zdo_ {K:Fgg}:∀ vs H Q E,zO_ K vs H Q E→vs.length=3:=by
 rintro vs H Q E ⟨F,c,_,hc,_⟩; exact ((zl_ (zl_ zo_)):CsN (csCons (tyL tyInt) (csCons (tyD kInt tyStr) (csLast (tyL tyPass)))) 3) hc
noncomputable def zaD_ (K:Fgg):TS:=(tSeq (tAsg (tCall (zy_ K) [] E0 (tCons (mVar 1) tNil)) (gName 2)) (tSeq (mIfS (mTest (tOp mIs (mVar 2) (tC .non))) (tRet (tOp mIs (mVar 0) (tC .non))) tNext) (tSeq (mIfS (mOr (tNot (mTest (tCB (mIsa K) (tCons (mVar 0) (tCons (tC (.ty "tuple")) tNil))))) (mTest (tOp (mNeK K) (tCB (mLen K) (tCons (mVar 0) tNil)) (tC (.int 2))))) (tRet (tC (.bl false))) tNext) (tSeq (mIfS (mOr (tNot (mTest (tCB (mIsaD) (tCons (tOp (mIx K) (mVar 0) (tC (.int 0))) (tCons (tC (.ty "dict")) tNil))))) (mOr (tNot (mTest (tCB (mIsa K) (tCons (tOp (mIx K) (mVar 0) (tC (.int 1))) (tCons (tC (.ty "list")) tNil))))) (mTest (tOp mNeD (tOp (mIx K) (mVar 0) (tC (.int 0))) (mVar 2))))) (tRet (tC (.bl false))) tNext) (tSeq (mForD (tOp (mIx K) (mVar 0) (tC (.int 0))) (gTupM K 2 (gConsM (gName 3) (gConsM (gName 4) gNilM))) (mIfS (mOr (tNot (mTest (tCall (zk_ K) [] E0 (tCons (mVar 3) tNil)))) (tNot (mTest (tCB (mIsa K) (tCons (mVar 4) (tCons (tC (.ty "str")) tNil)))))) (tRet (tC (.bl false))) tNext)) (tRet (tCall (zO_ K) [] E0 (tCons (tOp (mIx K) (mVar 0) (tC (.int 1))) (tCons (mVar 2) (tCons (mVar 1) tNil))))))))))
noncomputable abbrev RD_law_good (K:Fgg):Prop:=∀ vs H Q E,zr_ K vs H Q E→zaD_ K { nx:=fun _ H'=>Q .non H',rt:=Q } (start Qn4 vs) H
theorem zcI_ {K:Fgg}:∀ vs H Q E,zr_ K vs H Q E→vs.length=2:=by
 rintro vs H Q E ⟨F,c,_,hc,_⟩; exact ((zl_ zo_):CsN (csCons Qq0 (csLast (tyL tyPass))) 2) hc
noncomputable def zaC_ (K:Fgg):TS:=(tSeq (tAsg (tC (tx SG)) (gName 5)) (tSeq (tAsg (tOp mAdd (tOp mMod (mVar 0) (tC (.int 2147483647))) (tC (.int 69621))) (gName 6)) (tSeq (tAsg (tOp mMod (tOp mMulX (mVar 6) (mVar 6)) (tC (.int 2147483629))) (gName 6)) (tSeq (tAsg (tOp mAdd (tC (.int 1)) (tOp mMod (tOp mAdd (mVar 2) (tOp mMod (tOp mDivG (mVar 6) (tC (.int 8))) (mVar 3))) (tC (.int 36)))) (gName 7)) (tSeq (mIfS (mTest (tOp mGe (tOp mMod (mVar 6) (tC (.int 8))) (mVar 4))) (tRet (tTup (tCons (tC (tx [100,101,97,108])) (tCons (mVar 7) tNil)))) tNext) (tSeq (mIfS (mTest (tOp (mEqK K) (tOp mMod (tOp mDivG (mVar 6) (tC (.int 512))) (tC (.int 7))) (tC (.int 1)))) (tRet (tTup (tCons (tC (tx [112,105,99,107])) (tCons (mVar 7) (tCons (tOp (mIx K) (mVar 5) (tOp mMod (tOp mDivG (mVar 6) (tC (.int 4096))) (tC (.int 37)))) tNil))))) tNext) (tRet (tTup (tCons (tC (tx [112,105,99,107])) (tCons (mVar 7) (tCons (tOp (mIx K) (mVar 1) (tOp mSub (mVar 7) (tC (.int 1)))) tNil)))))))))))
noncomputable abbrev RD_law_pass (K:Fgg):Prop:=∀ vs H Q E,zF_ K vs H Q E→zaC_ K { nx:=fun _ H'=>Q .non H',rt:=Q } (start Qn1 vs) H
theorem zct_ {K:Fgg}:∀ vs H Q E,zF_ K vs H Q E→vs.length=5:=by
 rintro vs H Q E ⟨F,c,_,hc,_⟩; exact ((zl_ (zl_ (zl_ (zl_ zo_)))):CsN (csCons tyInt (csCons tyStr (csCons tyInt (csCons tyInt (csLast tyInt))))) 5) hc
noncomputable def zgP_ (K:Fgg):TS:=(tSeq (tAsg (tC (tx SG)) (gName 1)) (tSeq (tAsg (tCall (zj_ K) [] E0 (tCons (mVar 0) (tCons (tC (.int 0)) tNil))) (gName 2)) (tSeq (tAsg (tOp mMod (tCall (zj_ K) [] E0 (tCons (mVar 0) (tCons (tC (.int 1)) tNil))) (tC (.int 36))) (gName 3)) (tSeq (tAsg (tOp mAdd (tSl (mSl K) (mVar 1) (mPart (mVar 3)) tNoPart) (tSl (mSl K) (mVar 1) tNoPart (mPart (mVar 3)))) (gName 4)) (tSeq (tAsg (tOp (mIx K) (tLst (tCons (tC (.int 2)) (tCons (tC (.int 1)) (tCons (tC (.int 4)) (tCons (tC (.int 36)) tNil))))) (tOp mMod (mVar 2) (tC (.int 4)))) (gName 5)) (tSeq (tAsg (tLst tNil) (gName 6)) (tSeq (tFor (iAny K (tSl (mSl K) (mVar 0) (mPart (tC (.int 2))) (mPart (tC (.int 102))))) (gName 7) (tDrop (tBM K "list" rAppend (mVar 6) (tCons (tCall (zF_ K) [] E0 (tCons (mVar 7) (tCons (mVar 4) (tCons (mVar 3) (tCons (mVar 5) (tCons (tOp (mIx K) (tLst (tCons (tC (.int 2)) (tCons (tC (.int 0)) (tCons (tC (.int 4)) tNil)))) (tOp mMod (tOp mDivG (mVar 2) (tC (.int 4))) (tC (.int 3)))) tNil)))))) tNil)))) (tSeq (tAsg (tCB (mList K) (tCons (mVar 6) tNil)) (gName 8)) (tSeq (tFor (iAny K (mVar 6)) (gName 9) (mIfS (mAnd (mTest (tOp (mEqK K) (tOp (mIx K) (mVar 9) (tC (.int 0))) (tC (tx [112,105,99,107])))) (mTest (tOp (mLtK K) (tCB (mLen K) (tCons (mVar 8) tNil)) (tC (.int 100))))) (tAsg (tOp mAdd (mVar 6) (tLst (tCons (tTup (tCons (tC (tx [112,105,99,107])) (tCons (tOp (mIx K) (mVar 9) (tC (.int 1))) (tCons (tOp (mIx K) (mVar 1) (tOp mMod (tOp mAdd (tOp mAdd (tBM K "str" mFind (mVar 1) (tCons (tOp (mIx K) (mVar 9) (tC (.int 2))) tNil)) (tC (.int 1))) (tOp mMod (tOp mDivG (mVar 2) (tC (.int 12))) (tC (.int 36)))) (tC (.int 37)))) tNil)))) tNil))) (gName 8)) tNext)) (tSeq (tAsg (tCB (mList K) (tCons (mVar 6) tNil)) (gName 10)) (tSeq (tAsg (tCall (zw_ K) [] E0 (tCons (mVar 10) tNil)) (gName 11)) (tSeq (mIfS (mOr (tNot (mTest (tCall (zr_ K) [] E0 (tCons (mVar 11) (tCons (mVar 6) tNil))))) (mTest (tOp (mNeK K) (mVar 10) (mVar 6)))) (tRet (tC (.bl false))) tNext) (tSeq (mIfS (mOr (tNot (mTest (tCall (zr_ K) [] E0 (tCons (tCall (zw_ K) [] E0 (tCons (mVar 8) tNil)) (tCons (mVar 8) tNil))))) (tNot (mTest (tCall (zr_ K) [] E0 (tCons (mVar 11) (tCons (mVar 6) tNil)))))) (tRet (tC (.bl false))) tNext) (tSeq (tDrop (tCall (zn_ K) [] E0 (tCons (mVar 11) tNil))) (tSeq (tDrop (tBM K "list" rAppend (mVar 10) (tCons (tTup (tCons (tC (tx [100,101,97,108])) (tCons (tC (.int 36)) tNil))) tNil))) (tRet (tCall (zr_ K) [] E0 (tCons (tCall (zw_ K) [] E0 (tCons (mVar 6) tNil)) (tCons (mVar 6) tNil)))))))))))))))))))
noncomputable abbrev RD_law (K:Fgg):Prop:=∀ vs H Q E,zcg_ K vs H Q E→zgP_ K { nx:=fun _ H'=>Q .non H',rt:=Q } (start Qn0 vs) H
theorem zil_ {K:Fgg}:∀ vs H Q E,zcg_ K vs H Q E→vs.length=1:=by
 intro vs H Q E h; obtain ⟨a,ns,rfl,_⟩:=h; rfl
end K15
namespace K15
open PySem PySem.Spec PyProof.Rows L2
section
variable {P:Program}{w:World}{K:Fgg}{mg:Str→Option Value}{base:Heap}
theorem zb1_:FnScope Qn7 Qn7 (defScope zu_):=⟨rfl,rfl,rfl,by decide +kernel,rfl,by decide +kernel,by decide +kernel⟩
theorem zb2_ (B_len:Gb mg "len") {cdv:Value}{A:Around}{outer:List Env}{s:Shared}{H:Hp}{E:XK}{f:Addr}(hr:Room 0 (A.deeper (envOfC "_law_cell_at" (defScope zu_) s.heap.objs.size f cdv))) :
  (PSs (cxOf CX0 P w K mg base Qn7 "_law_cell_at" (defScope zu_) f cdv A outer s H E).nox (defBody zu_) (z2_ K)) := 
 (zd_ (zag_ (zH_ (zf2_ hr.u60) (za_ 1) (zdI_ zaP_ B_len (zb_ (za_ 0) zp_))) (zf_ (z4_ (zaG_ ix_M (za_ 0) (za_ 1) (fun _ _=>rfl)))) zI_) (zf_ (z4_ ze_)))
theorem zbR_ (B_len:Gb mg "len") {f:Addr}{fd:FuncData}(F:Fun K "_law_cell_at" "_law_cell_at" zu_ f fd) (len:∀ vs H Q E,zj_ K vs H Q E→vs.length=2)
  (rd:∀ vs H Q E,zj_ K vs H Q E→z2_ K { nx:=fun _ H'=>Q .non H',rt:=Q } (start Qn7 vs) H):FnOk P w K mg base CX0 1 f fd Qn7 (zj_ K):=by
 refine F.ok zb1_ len (fun cdv A outer s H vs Q E hr h=>⟨_,zb2_ B_len hr,rd vs H Q E h⟩)
theorem zai_:FnScope ["row", "signs", "step"] ["row"] (defScope zq_):=⟨rfl,rfl,rfl,by decide +kernel,rfl,by decide +kernel,by decide +kernel⟩
theorem zbD_  {cdv:Value}{A:Around}{outer:List Env}{s:Shared}{H:Hp}{E:XK}{f:Addr}(hr:Room 0 (A.deeper (envOfC "picked_signs" (defScope zq_) s.heap.objs.size f cdv))) :
  (PSs (cxOf CX0 P w K mg base ["row", "signs", "step"] "picked_signs" (defScope zq_) f cdv A outer s H E).nox (defBody zq_) (zM_ K)) := 
 (zd_ (z5_ (i:=1) zai_.nd rfl (by first | exact Or.inl rfl | exact Or.inr rfl) zei_) (zd_ (zbN_ PassesOwn.never rfl (zdm_ (za_ 0)) (zaJ_ (i:=2) zai_.nd rfl (by first | exact Or.inl rfl | exact Or.inr rfl)) (zf_ (zag_ (zH_ (zcR_ hr.u60) (zaG_ ix_M (za_ 2) ze_ (fun _ _=>rfl)) (zaS_ (l:=[112,105,99,107]))) (zf_ (zag_ (zH_ (zeY_ hr.u60) (zf9_ hr.u60 (za_ 1) (zaG_ ix_M (za_ 2) ze_ (fun _ _=>rfl)) (zaG_ ix_M (za_ 2) ze_ (fun _ _=>rfl))) (zaG_ ix_M (za_ 2) ze_ (fun _ _=>rfl))) (zf_ (z4_ zcQ_)) zI_)) zI_))) (zf_ (z4_ (za_ 1)))))
theorem zbA_  {f:Addr}{fd:FuncData}(F:Fun K "picked_signs" "picked_signs" zq_ f fd) (len:∀ vs H Q E,zi_ K vs H Q E→vs.length=1)
  (rd:∀ vs H Q E,zi_ K vs H Q E→zM_ K { nx:=fun _ H'=>Q .non H',rt:=Q } (start ["row", "signs", "step"] vs) H):FnOk P w K mg base CX0 1 f fd ["row"] (zi_ K):=by
 refine F.ok zai_ len (fun cdv A outer s H vs Q E hr h=>⟨_,zbD_  hr,rd vs H Q E h⟩)
theorem zaI_:FnScope ["row", "signs", "columns", "step"] ["row"] (defScope zP_):=⟨rfl,rfl,rfl,by decide +kernel,rfl,by decide +kernel,by decide +kernel⟩
theorem zdw_ (G_picked_signs:Gd P w K mg base CX0 1 "picked_signs" ["row"] (zi_ K)) (B_reversed:Gb mg "reversed") {cdv:Value}{A:Around}{outer:List Env}{s:Shared}{H:Hp}{E:XK}{f:Addr}(hr:Room 1 (A.deeper (envOfC "sense_of" (defScope zP_) s.heap.objs.size f cdv))) :
  (PSs (cxOf CX0 P w K mg base ["row", "signs", "columns", "step"] "sense_of" (defScope zP_) f cdv A outer s H E).nox (defBody zP_) (zaB_ K)) := 
 (zd_ (z5_ (i:=1) zaI_.nd rfl (by first | exact Or.inl rfl | exact Or.inr rfl) (zA_ G_picked_signs (hr.mono (j:=1) (by decide)) (zb_ (za_ 0) zp_))) (zd_ (zag_ (zH_ zgx_ (za_ 1) zcQ_) (zf_ (z4_ zcQ_)) zI_) (zd_ (z5_ (i:=2) zaI_.nd rfl (by first | exact Or.inl rfl | exact Or.inr rfl) (zd0_ zp_)) (zd_ (zbN_ PassesOwn.never rfl (zja_ B_reversed (zb_ (za_ 0) zp_)) (zaJ_ (i:=3) zaI_.nd rfl (by first | exact Or.inl rfl | exact Or.inr rfl)) (zf_ (zag_ (PW.pt (zbI_ (zH_ (zcR_ hr.u60) (zaG_ ix_M (za_ 3) ze_ (fun _ _=>rfl)) (zaS_ (l:=[100,101,97,108]))) (zbI_ (zch_ hr.u60 (zaG_ ix_M (za_ 3) ze_ (fun _ _=>rfl)) (za_ 1)) (zdi_ (zH_ zc3_ (zaG_ ix_M (za_ 3) ze_ (fun _ _=>rfl)) (za_ 2)))))) (zf_ (zcc_ (zhk_ PySem.F.plainAttrs_list PySem.F.slot_list_append PySem.F.type_list_append zbd_ (za_ 2) (zb_ (zaG_ ix_M (za_ 3) ze_ (fun _ _=>rfl)) zp_)))) zI_))) (zf_ (z4_ (zcT_ (zb_ (za_ 1) (zb_ (za_ 2) zp_)))))))))
theorem zdn_ (G_picked_signs:Gd P w K mg base CX0 1 "picked_signs" ["row"] (zi_ K)) (B_reversed:Gb mg "reversed") {f:Addr}{fd:FuncData}(F:Fun K "sense_of" "sense_of" zP_ f fd) (len:∀ vs H Q E,zw_ K vs H Q E→vs.length=1)
  (rd:∀ vs H Q E,zw_ K vs H Q E→zaB_ K { nx:=fun _ H'=>Q .non H',rt:=Q } (start ["row", "signs", "columns", "step"] vs) H):FnOk P w K mg base CX0 2 f fd ["row"] (zw_ K):=by
 refine F.ok zaI_ len (fun cdv A outer s H vs Q E hr h=>⟨_,zdw_ G_picked_signs B_reversed hr,rd vs H Q E h⟩)
theorem zbX_:FnScope Qn5 Qn5 (defScope zs_):=⟨rfl,rfl,rfl,by decide +kernel,rfl,by decide +kernel,by decide +kernel⟩
theorem zbU_  {cdv:Value}{A:Around}{outer:List Env}{s:Shared}{H:Hp}{E:XK}{f:Addr}(hr:Room 0 (A.deeper (envOfC "_law_changed" (defScope zs_) s.heap.objs.size f cdv))) :
  (PSs (cxOf CX0 P w K mg base Qn5 "_law_changed" (defScope zs_) f cdv A outer s H E).nox (defBody zs_) (z1_ K)) := 
 (zf_ (zag_ (zH_ zeK_ (za_ 0) zcQ_) (zd_ (zd1_ hr.u60 (zaG_ ix_M (za_ 0) ze_ (fun _ _=>rfl)) ze_ (zaS_ (l:=[88]))) (zf_ (zcc_ (zhk_ PySem.F.plainAttrs_list PySem.F.slot_list_append PySem.F.type_list_append zbd_ (zaG_ ix_M (za_ 0) ze_ (fun _ _=>rfl)) (zb_ ze_ zp_))))) zI_))
theorem zbM_  {f:Addr}{fd:FuncData}(F:Fun K "_law_changed" "_law_changed" zs_ f fd) (len:∀ vs H Q E,zn_ K vs H Q E→vs.length=1)
  (rd:∀ vs H Q E,zn_ K vs H Q E→z1_ K { nx:=fun _ H'=>Q .non H',rt:=Q } (start Qn5 vs) H):FnOk P w K mg base CX0 1 f fd Qn5 (zn_ K):=by
 refine F.ok zbX_ len (fun cdv A outer s H vs Q E hr h=>⟨_,zbU_  hr,rd vs H Q E h⟩)
theorem zaL_:FnScope Qn9 ["_law_row"] (defScope zD_):=⟨rfl,rfl,rfl,by decide +kernel,rfl,by decide +kernel,by decide +kernel⟩
theorem zcC_  {cdv:Value}{A:Around}{outer:List Env}{s:Shared}{H:Hp}{E:XK}{f:Addr}(hr:Room 0 (A.deeper (envOfC "_law_picks" (defScope zD_) s.heap.objs.size f cdv))) :
  (PSs (cxOf CX0 P w K mg base Qn9 "_law_picks" (defScope zD_) f cdv A outer s H E).nox (defBody zD_) (zal_ K)) := 
 (zd_ (z5_ (i:=1) zaL_.nd rfl (by first | exact Or.inl rfl | exact Or.inr rfl) zei_) (zd_ (zbN_ PassesOwn.never rfl (zdm_ (za_ 0)) (zaJ_ (i:=2) zaL_.nd rfl (by first | exact Or.inl rfl | exact Or.inr rfl)) (zf_ (zag_ (zH_ (zcR_ hr.u60) (zaG_ ix_M (za_ 2) ze_ (fun _ _=>rfl)) (zaS_ (l:=[112,105,99,107]))) (zd_ (zag_ (PW.pt (zbI_ (zfu_ hr.u60 (zaG_ ix_M (za_ 2) ze_ (fun _ _=>rfl)) (za_ 1)) (zdi_ (zH_ (zeY_ hr.u60) (zgs_ hr.u60 (za_ 1) (zaG_ ix_M (za_ 2) ze_ (fun _ _=>rfl))) (zaG_ ix_M (za_ 2) ze_ (fun _ _=>rfl)))))) (zf_ (z4_ zcQ_)) zI_) (zf_ (zd1_ hr.u60 (za_ 1) (zaG_ ix_M (za_ 2) ze_ (fun _ _=>rfl)) (zaG_ ix_M (za_ 2) ze_ (fun _ _=>rfl))))) zI_))) (zf_ (z4_ (za_ 1)))))
theorem zcO_  {f:Addr}{fd:FuncData}(F:Fun K "_law_picks" "_law_picks" zD_ f fd) (len:∀ vs H Q E,zy_ K vs H Q E→vs.length=1)
  (rd:∀ vs H Q E,zy_ K vs H Q E→zal_ K { nx:=fun _ H'=>Q .non H',rt:=Q } (start Qn9 vs) H):FnOk P w K mg base CX0 1 f fd ["_law_row"] (zy_ K):=by
 refine F.ok zaL_ len (fun cdv A outer s H vs Q E hr h=>⟨_,zcC_  hr,rd vs H Q E h⟩)
theorem zR_:FnScope Qn8 ["_law_row", "_law_column"] (defScope zh_):=⟨rfl,rfl,rfl,by decide +kernel,rfl,by decide +kernel,by decide +kernel⟩
theorem zbl_ (B_range:Gb mg "range") (B_len:Gb mg "len") {cdv:Value}{A:Around}{outer:List Env}{s:Shared}{H:Hp}{E:XK}{f:Addr}(hr:Room 0 (A.deeper (envOfC "_law_last_deal" (defScope zh_) s.heap.objs.size f cdv))) :
  (PSs (cxOf CX0 P w K mg base Qn8 "_law_last_deal" (defScope zh_) f cdv A outer s H E).nox (defBody zh_) (zJ_ K)) := 
 (zd_ (z5_ (i:=2) zR_.nd rfl (by first | exact Or.inl rfl | exact Or.inr rfl) (ziE_ ze_)) (zd_ (zbN_ PassesOwn.never rfl (zgu_ B_range (zb_ (zdI_ zaP_ B_len (zb_ (za_ 0) zp_)) zp_)) (zaJ_ (i:=3) zR_.nd rfl (by first | exact Or.inl rfl | exact Or.inr rfl)) (zf_ (zag_ (zH_ (zcR_ hr.u60) (zaG_ ix_M (za_ 0) (za_ 3) (fun _ _=>rfl)) (zcT_ (zb_ (zaS_ (l:=[100,101,97,108])) (zb_ (za_ 1) zp_)))) (zf_ (z5_ (i:=2) zR_.nd rfl (by first | exact Or.inl rfl | exact Or.inr rfl) (za_ 3))) zI_))) (zf_ (z4_ (za_ 2)))))
theorem zbs_ (B_range:Gb mg "range") (B_len:Gb mg "len") {f:Addr}{fd:FuncData}(F:Fun K "_law_last_deal" "_law_last_deal" zh_ f fd) (len:∀ vs H Q E,zg_ K vs H Q E→vs.length=2)
  (rd:∀ vs H Q E,zg_ K vs H Q E→zJ_ K { nx:=fun _ H'=>Q .non H',rt:=Q } (start Qn8 vs) H):FnOk P w K mg base CX0 1 f fd ["_law_row", "_law_column"] (zg_ K):=by
 refine F.ok zR_ len (fun cdv A outer s H vs Q E hr h=>⟨_,zbl_ B_range B_len hr,rd vs H Q E h⟩)
theorem zcJ_:FnScope Qn5 Qn5 (defScope zB_):=⟨rfl,rfl,rfl,by decide +kernel,rfl,by decide +kernel,by decide +kernel⟩
theorem zcP_ (B_isinstance:Gb mg "isinstance") (B_int:Gb mg "int") (B_bool:Gb mg "bool") {cdv:Value}{A:Around}{outer:List Env}{s:Shared}{H:Hp}{E:XK}{f:Addr}(hr:Room 0 (A.deeper (envOfC "_law_whole" (defScope zB_) s.heap.objs.size f cdv))) :
  (PSs (cxOf CX0 P w K mg base Qn5 "_law_whole" (defScope zB_) f cdv A outer s H E).nox (defBody zB_) (zao_ K)) := 
 (zf_ (z4_ (zid_ (zdI_ zbw_ B_isinstance (zb_ (za_ 0) (zb_ (zgB_ "int" B_int) zp_))) (ziO_ (zhs_ (zdI_ zbw_ B_isinstance (zb_ (za_ 0) (zb_ (zgB_ "bool" B_bool) zp_))))))))
theorem zcq_ (B_isinstance:Gb mg "isinstance") (B_int:Gb mg "int") (B_bool:Gb mg "bool") {f:Addr}{fd:FuncData}(F:Fun K "_law_whole" "_law_whole" zB_ f fd) (len:∀ vs H Q E,zk_ K vs H Q E→vs.length=1)
  (rd:∀ vs H Q E,zk_ K vs H Q E→zao_ K { nx:=fun _ H'=>Q .non H',rt:=Q } (start Qn5 vs) H):FnOk P w K mg base CX0 1 f fd Qn5 (zk_ K):=by
 refine F.ok zcJ_ len (fun cdv A outer s H vs Q E hr h=>⟨_,zcP_ B_isinstance B_int B_bool hr,rd vs H Q E h⟩)
theorem zap_:FnScope Qn2 Qn6 (defScope z7_):=⟨rfl,rfl,rfl,by decide +kernel,rfl,by decide +kernel,by decide +kernel⟩
theorem zen_ (G_law_whole:Gd P w K mg base CX0 1 "_law_whole" Qn5 (zk_ K)) (G_law_last_deal:Gd P w K mg base CX0 1 "_law_last_deal" ["_law_row", "_law_column"] (zg_ K)) (B_len:Gb mg "len") {cdv:Value}{A:Around}{outer:List Env}{s:Shared}{H:Hp}{E:XK}{f:Addr}(hr:Room 1 (A.deeper (envOfC "_law_key" (defScope z7_) s.heap.objs.size f cdv))) :
  (PSs (cxOf CX0 P w K mg base Qn2 "_law_key" (defScope z7_) f cdv A outer s H E).nox (defBody z7_) (zaM_ K)) := 
 (zd_ (z5_ (i:=3) zap_.nd rfl (by first | exact Or.inl rfl | exact Or.inr rfl) (zdI_ zaP_ B_len (zb_ (za_ 2) zp_))) (zd_ (zbN_ PassesOwn.never rfl (zdm_ (za_ 0)) (zaJ_ (i:=4) zap_.nd rfl (by first | exact Or.inl rfl | exact Or.inr rfl)) (zd_ (zag_ (PW.pt (zcl_ (zbT_ (zaT_ (zA_ G_law_whole (hr.mono (j:=1) (by decide)) (zb_ (za_ 4) zp_)))) (zcF_ (zfu_ hr.u60 (za_ 4) (za_ 1))))) (zf_ (z4_ zeO_)) zI_) (zd_ (z5_ (i:=5) zap_.nd rfl (by first | exact Or.inl rfl | exact Or.inr rfl) (zA_ G_law_last_deal (hr.mono (j:=1) (by decide)) (zb_ (za_ 2) (zb_ (za_ 4) zp_)))) (zd_ (zag_ (PW.pt (zcl_ (zH_ (zf2_ hr.u60) (za_ 5) ze_) (zcF_ (zH_ zhf_ (za_ 5) (za_ 3))))) (zf_ (z4_ zeO_)) zI_) (zf_ (z5_ (i:=3) zap_.nd rfl (by first | exact Or.inl rfl | exact Or.inr rfl) (za_ 5))))))) (zd_ (zbN_ PassesOwn.never rfl (zdm_ (za_ 2)) (zaJ_ (i:=6) zap_.nd rfl (by first | exact Or.inl rfl | exact Or.inr rfl)) (zf_ (zag_ (PW.pt (zbI_ (zH_ (zcR_ hr.u60) (zaG_ ix_M (za_ 6) ze_ (fun _ _=>rfl)) (zaS_ (l:=[100,101,97,108]))) (zbI_ (zch_ hr.u60 (zaG_ ix_M (za_ 6) ze_ (fun _ _=>rfl)) (za_ 1)) (zdi_ (zH_ zc3_ (zaG_ ix_M (za_ 6) ze_ (fun _ _=>rfl)) (za_ 0)))))) (zf_ (z4_ zeO_)) zI_))) (zf_ (z4_ zeO_)))))
theorem zeq_ (G_law_whole:Gd P w K mg base CX0 1 "_law_whole" Qn5 (zk_ K)) (G_law_last_deal:Gd P w K mg base CX0 1 "_law_last_deal" ["_law_row", "_law_column"] (zg_ K)) (B_len:Gb mg "len") {f:Addr}{fd:FuncData}(F:Fun K "_law_key" "_law_key" z7_ f fd) (len:∀ vs H Q E,zO_ K vs H Q E→vs.length=3)
  (rd:∀ vs H Q E,zO_ K vs H Q E→zaM_ K { nx:=fun _ H'=>Q .non H',rt:=Q } (start Qn2 vs) H):FnOk P w K mg base CX0 2 f fd Qn6 (zO_ K):=by
 refine F.ok zap_ len (fun cdv A outer s H vs Q E hr h=>⟨_,zen_ G_law_whole G_law_last_deal B_len hr,rd vs H Q E h⟩)
theorem zaE_:FnScope Qn4 ["_law_found", "_law_row"] (defScope zQ_):=⟨rfl,rfl,rfl,by decide +kernel,rfl,by decide +kernel,by decide +kernel⟩
theorem zdr_ (G_law_picks:Gd P w K mg base CX0 1 "_law_picks" ["_law_row"] (zy_ K)) (G_law_whole:Gd P w K mg base CX0 1 "_law_whole" Qn5 (zk_ K)) (G_law_key:Gd P w K mg base CX0 2 "_law_key" Qn6 (zO_ K)) (B_isinstance:Gb mg "isinstance") (B_tuple:Gb mg "tuple") (B_len:Gb mg "len") (B_dict:Gb mg "dict") (B_list:Gb mg "list") (B_str:Gb mg "str") {cdv:Value}{A:Around}{outer:List Env}{s:Shared}{H:Hp}{E:XK}{f:Addr}(hr:Room 2 (A.deeper (envOfC "_law_good" (defScope zQ_) s.heap.objs.size f cdv))) :
  (PSs (cxOf CX0 P w K mg base Qn4 "_law_good" (defScope zQ_) f cdv A outer s H E).nox (defBody zQ_) (zaD_ K)) := 
 (zd_ (z5_ (i:=2) zaE_.nd rfl (by first | exact Or.inl rfl | exact Or.inr rfl) (zA_ G_law_picks (hr.mono (j:=1) (by decide)) (zb_ (za_ 1) zp_))) (zd_ (zag_ (zH_ zgx_ (za_ 2) zcQ_) (zf_ (z4_ (zh9_ zgx_ (za_ 0) zcQ_))) zI_) (zd_ (zag_ (PW.pt (zcl_ (zbT_ (zaT_ (zdI_ zbw_ B_isinstance (zb_ (za_ 0) (zb_ (zgB_ "tuple" B_tuple) zp_))))) (zcF_ (zH_ (zeY_ hr.u60) (zdI_ zaP_ B_len (zb_ (za_ 0) zp_)) ze_)))) (zf_ (z4_ zeO_)) zI_) (zd_ (zag_ (PW.pt (zcl_ (zbT_ (zaT_ (zdI_ ze5_ B_isinstance (zb_ (zaG_ ix_M (za_ 0) ze_ (fun _ _=>rfl)) (zb_ (zgB_ "dict" B_dict) zp_))))) (zcl_ (zbT_ (zaT_ (zdI_ zbw_ B_isinstance (zb_ (zaG_ ix_M (za_ 0) ze_ (fun _ _=>rfl)) (zb_ (zgB_ "list" B_list) zp_))))) (zcF_ (zH_ (zgF_ hr.u60) (zaG_ ix_M (za_ 0) ze_ (fun _ _=>rfl)) (za_ 2)))))) (zf_ (z4_ zeO_)) zI_) (zd_ (zhX_ PassesOwn.never rfl (zaG_ ix_M (za_ 0) ze_ (fun _ _=>rfl)) (zhN_ (n:=2) rfl (zc8_ (zaJ_ (i:=3) zaE_.nd rfl (by first | exact Or.inl rfl | exact Or.inr rfl)) (zc8_ (zaJ_ (i:=4) zaE_.nd rfl (by first | exact Or.inl rfl | exact Or.inr rfl)) zfZ_))) (zf_ (zag_ (PW.pt (zcl_ (zbT_ (zaT_ (zA_ G_law_whole (hr.mono (j:=1) (by decide)) (zb_ (za_ 3) zp_)))) (zcF_ (zbT_ (zaT_ (zdI_ zbw_ B_isinstance (zb_ (za_ 4) (zb_ (zgB_ "str" B_str) zp_)))))))) (zf_ (z4_ zeO_)) zI_))) (zf_ (z4_ (zA_ G_law_key (hr.mono (j:=2) (by decide)) (zb_ (zaG_ ix_M (za_ 0) ze_ (fun _ _=>rfl)) (zb_ (za_ 2) (zb_ (za_ 1) zp_)))))))))))
theorem zdu_ (G_law_picks:Gd P w K mg base CX0 1 "_law_picks" ["_law_row"] (zy_ K)) (G_law_whole:Gd P w K mg base CX0 1 "_law_whole" Qn5 (zk_ K)) (G_law_key:Gd P w K mg base CX0 2 "_law_key" Qn6 (zO_ K)) (B_isinstance:Gb mg "isinstance") (B_tuple:Gb mg "tuple") (B_len:Gb mg "len") (B_dict:Gb mg "dict") (B_list:Gb mg "list") (B_str:Gb mg "str") {f:Addr}{fd:FuncData}(F:Fun K "_law_good" "_law_good" zQ_ f fd) (len:∀ vs H Q E,zr_ K vs H Q E→vs.length=2)
  (rd:∀ vs H Q E,zr_ K vs H Q E→zaD_ K { nx:=fun _ H'=>Q .non H',rt:=Q } (start Qn4 vs) H):FnOk P w K mg base CX0 3 f fd ["_law_found", "_law_row"] (zr_ K):=by
 refine F.ok zaE_ len (fun cdv A outer s H vs Q E hr h=>⟨_,zdr_ G_law_picks G_law_whole G_law_key B_isinstance B_tuple B_len B_dict B_list B_str hr,rd vs H Q E h⟩)
theorem zan_:FnScope Qn1 Qn3 (defScope zN_):=⟨rfl,rfl,rfl,by decide +kernel,rfl,by decide +kernel,by decide +kernel⟩
theorem zdA_  {cdv:Value}{A:Around}{outer:List Env}{s:Shared}{H:Hp}{E:XK}{f:Addr}(hr:Room 0 (A.deeper (envOfC "_law_pass" (defScope zN_) s.heap.objs.size f cdv))) :
  (PSs (cxOf CX0 P w K mg base Qn1 "_law_pass" (defScope zN_) f cdv A outer s H E).nox (defBody zN_) (zaC_ K)) := 
 (zd_ (z5_ (i:=5) zan_.nd rfl (by first | exact Or.inl rfl | exact Or.inr rfl) (zaS_ (l:=SG))) (zd_ (z5_ (i:=6) zan_.nd rfl (by first | exact Or.inl rfl | exact Or.inr rfl) (za7_ zbe_ (za7_ zav_ (za_ 0) ze_) ze_)) (zd_ (z5_ (i:=6) zan_.nd rfl (by first | exact Or.inl rfl | exact Or.inr rfl) (za7_ zav_ (za7_ zh2_ (za_ 6) (za_ 6)) ze_)) (zd_ (z5_ (i:=7) zan_.nd rfl (by first | exact Or.inl rfl | exact Or.inr rfl) (za7_ zbe_ ze_ (za7_ zav_ (za7_ zbe_ (za_ 2) (za7_ zav_ (za7_ zcb_ (za_ 6) ze_) (za_ 3))) ze_))) (zd_ (zag_ (zH_ zhf_ (za7_ zav_ (za_ 6) ze_) (za_ 4)) (zf_ (z4_ (zcT_ (zb_ (zaS_ (l:=[100,101,97,108])) (zb_ (za_ 7) zp_))))) zI_) (zd_ (zag_ (zH_ (zcR_ hr.u60) (za7_ zav_ (za7_ zcb_ (za_ 6) ze_) ze_) ze_) (zf_ (z4_ (zcT_ (zb_ (zaS_ (l:=[112,105,99,107])) (zb_ (za_ 7) (zb_ (zaG_ ix_M (za_ 5) (za7_ zav_ (za7_ zcb_ (za_ 6) ze_) ze_) (fun _ _=>rfl)) zp_)))))) zI_) (zf_ (z4_ (zcT_ (zb_ (zaS_ (l:=[112,105,99,107])) (zb_ (za_ 7) (zb_ (zaG_ ix_M (za_ 1) (za7_ zif_ (za_ 7) ze_) (fun _ _=>rfl)) zp_))))))))))))
theorem zdv_  {f:Addr}{fd:FuncData}(F:Fun K "_law_pass" "_law_pass" zN_ f fd) (len:∀ vs H Q E,zF_ K vs H Q E→vs.length=5)
  (rd:∀ vs H Q E,zF_ K vs H Q E→zaC_ K { nx:=fun _ H'=>Q .non H',rt:=Q } (start Qn1 vs) H):FnOk P w K mg base CX0 1 f fd Qn3 (zF_ K):=by
 refine F.ok zan_ len (fun cdv A outer s H vs Q E hr h=>⟨_,zdA_  hr,rd vs H Q E h⟩)
theorem zaW_:FnScope Qn0 ["_law_script"] (defScope zdH_):=⟨rfl,rfl,rfl,by decide +kernel,rfl,by decide +kernel,by decide +kernel⟩
theorem zix_ (G_law_cell_at:Gd P w K mg base CX0 1 "_law_cell_at" Qn7 (zj_ K)) (G_law_pass:Gd P w K mg base CX0 1 "_law_pass" Qn3 (zF_ K)) (G_sense_of:Gd P w K mg base CX0 2 "sense_of" ["row"] (zw_ K)) (G_law_good:Gd P w K mg base CX0 3 "_law_good" ["_law_found", "_law_row"] (zr_ K)) (G_law_changed:Gd P w K mg base CX0 1 "_law_changed" Qn5 (zn_ K)) (B_list:Gb mg "list") (B_len:Gb mg "len") {cdv:Value}{A:Around}{outer:List Env}{s:Shared}{H:Hp}{E:XK}{f:Addr}(hr:Room 3 (A.deeper (envOfC "law" (defScope zdH_) s.heap.objs.size f cdv))) :
  (PSs (cxOf CX0 P w K mg base Qn0 "law" (defScope zdH_) f cdv A outer s H E).nox (defBody zdH_) (zgP_ K)) := 
 (zd_ (z5_ (i:=1) zaW_.nd rfl (by first | exact Or.inl rfl | exact Or.inr rfl) (zaS_ (l:=SG))) (zd_ (z5_ (i:=2) zaW_.nd rfl (by first | exact Or.inl rfl | exact Or.inr rfl) (zA_ G_law_cell_at (hr.mono (j:=1) (by decide)) (zb_ (za_ 0) (zb_ ze_ zp_)))) (zd_ (z5_ (i:=3) zaW_.nd rfl (by first | exact Or.inl rfl | exact Or.inr rfl) (za7_ zav_ (zA_ G_law_cell_at (hr.mono (j:=1) (by decide)) (zb_ (za_ 0) (zb_ ze_ zp_))) ze_)) (zd_ (z5_ (i:=4) zaW_.nd rfl (by first | exact Or.inl rfl | exact Or.inr rfl) (za7_ zbe_ (zcr_ sl_M (za_ 1) (po_M (za_ 3)) zfw_) (zcr_ sl_M (za_ 1) zfw_ (po_M (za_ 3))))) (zd_ (z5_ (i:=5) zaW_.nd rfl (by first | exact Or.inl rfl | exact Or.inr rfl) (zaG_ ix_M (zd0_ (zb_ ze_ (zb_ ze_ (zb_ ze_ (zb_ ze_ zp_))))) (za7_ zav_ (za_ 2) ze_) (fun _ _=>rfl))) (zd_ (z5_ (i:=6) zaW_.nd rfl (by first | exact Or.inl rfl | exact Or.inr rfl) (zd0_ zp_)) (zd_ (zbN_ PassesOwn.never rfl (zdm_ (zcr_ sl_M (za_ 0) (po_M ze_) (po_M ze_))) (zaJ_ (i:=7) zaW_.nd rfl (by first | exact Or.inl rfl | exact Or.inr rfl)) (zf_ (zcc_ (zhk_ PySem.F.plainAttrs_list PySem.F.slot_list_append PySem.F.type_list_append zbd_ (za_ 6) (zb_ (zA_ G_law_pass (hr.mono (j:=1) (by decide)) (zb_ (za_ 7) (zb_ (za_ 4) (zb_ (za_ 3) (zb_ (za_ 5) (zb_ (zaG_ ix_M (zd0_ (zb_ ze_ (zb_ ze_ (zb_ ze_ zp_)))) (za7_ zav_ (za7_ zcb_ (za_ 2) ze_) ze_) (fun _ _=>rfl)) zp_)))))) zp_))))) (zd_ (z5_ (i:=8) zaW_.nd rfl (by first | exact Or.inl rfl | exact Or.inr rfl) (pe_tf "list" (zco_ rfl) B_list (zb_ (za_ 6) zp_))) (zd_ (zbN_ PassesOwn.never rfl (zdm_ (za_ 6)) (zaJ_ (i:=9) zaW_.nd rfl (by first | exact Or.inl rfl | exact Or.inr rfl)) (zf_ (zag_ (PW.pt (zbI_ (zH_ (zcR_ hr.u60) (zaG_ ix_M (za_ 9) ze_ (fun _ _=>rfl)) (zaS_ (l:=[112,105,99,107]))) (zdi_ (zH_ (zf2_ hr.u60) (zdI_ zaP_ B_len (zb_ (za_ 8) zp_)) ze_)))) (zf_ (z5_ (i:=8) zaW_.nd rfl (by first | exact Or.inl rfl | exact Or.inr rfl) (za7_ zbe_ (za_ 6) (zd0_ (zb_ (zcT_ (zb_ (zaS_ (l:=[112,105,99,107])) (zb_ (zaG_ ix_M (za_ 9) ze_ (fun _ _=>rfl)) (zb_ (zaG_ ix_M (za_ 1) (za7_ zav_ (za7_ zbe_ (za7_ zbe_ (pe_sm PySem.F.slot_str_find PySem.F.type_str_find zij_ (za_ 1) (zb_ (zaG_ ix_M (za_ 9) ze_ (fun _ _=>rfl)) zp_)) ze_) (za7_ zav_ (za7_ zcb_ (za_ 2) ze_) ze_)) ze_) (fun _ _=>rfl)) zp_)))) zp_))))) zI_))) (zd_ (z5_ (i:=10) zaW_.nd rfl (by first | exact Or.inl rfl | exact Or.inr rfl) (pe_tf "list" (zco_ rfl) B_list (zb_ (za_ 6) zp_))) (zd_ (z5_ (i:=11) zaW_.nd rfl (by first | exact Or.inl rfl | exact Or.inr rfl) (zA_ G_sense_of (hr.mono (j:=2) (by decide)) (zb_ (za_ 10) zp_))) (zd_ (zag_ (PW.pt (zcl_ (zbT_ (zaT_ (zA_ G_law_good (hr.mono (j:=3) (by decide)) (zb_ (za_ 11) (zb_ (za_ 6) zp_))))) (zcF_ (zH_ (zeY_ hr.u60) (za_ 10) (za_ 6))))) (zf_ (z4_ zeO_)) zI_) (zd_ (zag_ (PW.pt (zcl_ (zbT_ (zaT_ (zA_ G_law_good (hr.mono (j:=3) (by decide)) (zb_ (zA_ G_sense_of (hr.mono (j:=2) (by decide)) (zb_ (za_ 8) zp_)) (zb_ (za_ 8) zp_))))) (zcF_ (zbT_ (zaT_ (zA_ G_law_good (hr.mono (j:=3) (by decide)) (zb_ (za_ 11) (zb_ (za_ 6) zp_)))))))) (zf_ (z4_ zeO_)) zI_) (zd_ (zcc_ (zA_ G_law_changed (hr.mono (j:=1) (by decide)) (zb_ (za_ 11) zp_))) (zd_ (zcc_ (zhk_ PySem.F.plainAttrs_list PySem.F.slot_list_append PySem.F.type_list_append zbd_ (za_ 10) (zb_ (zcT_ (zb_ (zaS_ (l:=[100,101,97,108])) (zb_ ze_ zp_))) zp_))) (zf_ (z4_ (zA_ G_law_good (hr.mono (j:=3) (by decide)) (zb_ (zA_ G_sense_of (hr.mono (j:=2) (by decide)) (zb_ (za_ 6) zp_)) (zb_ (za_ 6) zp_))))))))))))))))))))
theorem zjk_ (G_law_cell_at:Gd P w K mg base CX0 1 "_law_cell_at" Qn7 (zj_ K)) (G_law_pass:Gd P w K mg base CX0 1 "_law_pass" Qn3 (zF_ K)) (G_sense_of:Gd P w K mg base CX0 2 "sense_of" ["row"] (zw_ K)) (G_law_good:Gd P w K mg base CX0 3 "_law_good" ["_law_found", "_law_row"] (zr_ K)) (G_law_changed:Gd P w K mg base CX0 1 "_law_changed" Qn5 (zn_ K)) (B_list:Gb mg "list") (B_len:Gb mg "len") {f:Addr}{fd:FuncData}(F:Fun K "law" "law" zdH_ f fd) (len:∀ vs H Q E,zcg_ K vs H Q E→vs.length=1)
  (rd:∀ vs H Q E,zcg_ K vs H Q E→zgP_ K { nx:=fun _ H'=>Q .non H',rt:=Q } (start Qn0 vs) H):FnOk P w K mg base CX0 4 f fd ["_law_script"] (zcg_ K):=by
 refine F.ok zaW_ len (fun cdv A outer s H vs Q E hr h=>⟨_,zix_ G_law_cell_at G_law_pass G_sense_of G_law_good G_law_changed B_list B_len hr,rd vs H Q E h⟩)
end
end K15
namespace K15
open PySem PySem.Spec PyProof.Rows L2
theorem zbV_ {K:Fgg}{E:XK}(c:((List Int)×Int)):EvS K (z2_ K) E [(Sl.fz (tySc K) c.1),(Sl.fz tyInt c.2)] (zad_ c.1 c.2) (fun _:Unit=>[]) (fun _:Unit=>[]) (owF tyInt) :=
 (za4_ (LS:=(fun _:Unit=>[(Sl.fz (tySc K) c.1),(Sl.fz tyInt c.2)])) (s_if (zE_ (zY_ zes_ (zc_ 1 rfl) (zhm_ zgj_ (zt_ (zc_ 0 rfl))))) (zbC_ (zaq_ zz_) (EvF.ow (zY_ zgK_ (zc_ 0 rfl) (zc_ 1 rfl)))) (zm_ (.same (.same .nil)))) fun _=>(at_ [(Sl.fz (tySc K) c.1),(Sl.fz tyInt c.2)] (zbC_ (zaq_ zz_) (EvF.ow (zx_ 0)))))
theorem zbS_ {K:Fgg}:RD_law_cell_at K:=zeD_ (K:=K) (N:=Qn7) (C:=(csCons (tySc K) (csLast tyInt))) (O:=(owF tyInt)) (t:=fun E=>z2_ K) (ss:=fun c=>[(Sl.fz (tySc K) c.1),(Sl.fz tyInt c.2)]) (f:=fun c=>zad_ c.1 c.2) 2 0 (zl_ zo_) rfl (zar_ zaf_) fun c E=>zbV_ c
theorem zbB_ {K:Fgg}{E:XK}(c:(List Pas)):EvS K (zM_ K) E [(Sl.fz (tyL tyPass) c),Sl.dead,Sl.dead] (z6_ c) (fun _:Unit=>[]) (fun _:Unit=>[]) (owOpt (owD kInt tyStr)) :=
 (zbZ_ (i:=1) rfl (zcy_ zaa_) (zfC_ kInt tyStr) fun signs_1=>(at_ [(Sl.fz (tyL tyPass) c),(Sl.ow (owD kInt tyStr) signs_1),Sl.dead] (za4_ (LS:=(fun s_2:Qq1=>[(Sl.fz (tyL tyPass) c),(Sl.ow (owD kInt tyStr) s_2),Sl.dead])) (zbK_ (L':=[(Sl.fz (tyL tyPass) c),(Sl.ow (owD kInt tyStr) signs_1),Sl.dead]) (.same (.same (.same .nil))) (zfo_ (LS:=(fun s_2:Qq1=>[(Sl.fz (tyL tyPass) c),(Sl.ow (owD kInt tyStr) s_2),Sl.dead])) (s0:=signs_1) (ei_l (zc_ 0 rfl)) (zaR_ 2) fun s_2 x_3=>at_ [(Sl.fz (tyL tyPass) c),(Sl.ow (owD kInt tyStr) s_2),(Sl.fz tyPass x_3)] (zdG_ (za4_ (LS:=(fun s_8:Qq1=>[(Sl.fz (tyL tyPass) c),(Sl.ow (owD kInt tyStr) s_8),(Sl.fz tyPass x_3)])) (s_if (zE_ (zY_ zdY_ (zbk_ (zc_ 2 rfl)) (zcf_ [112,105,99,107]))) (zit_ (i:=1) rfl zaa_ zz_ (zaj_ (zc_ 2 rfl)) (zbg_ (zc_ 2 rfl)) zg4_ (fun q_11=>atF [(Sl.fz (tyL tyPass) c),(Sl.ow (owD kInt tyStr) q_11.2),(Sl.fz tyPass x_3)] (zbg_ (zc_ 2 rfl))) (fun q_11=>at_ [(Sl.fz (tyL tyPass) c),(Sl.ow (owD kInt tyStr) q_11.2),(Sl.fz tyPass x_3)] (zbC_ (zbt_ (zcy_ zaa_)) (zdP_ (owD kInt tyStr)))) (fun q_11=>at_ [(Sl.fz (tyL tyPass) c),(Sl.ow (owD kInt tyStr) q_11.2),(Sl.fz tyPass x_3)] (zm_ (.same (.same (.same .nil)))))) (zm_ (.same (.same (.same .nil))))) fun s_8=>(at_ [(Sl.fz (tyL tyPass) c),(Sl.ow (owD kInt tyStr) s_8),(Sl.fz tyPass x_3)] (zm_ (.same (.same (.dead .nil))))))))) fun s_2=>(at_ [(Sl.fz (tyL tyPass) c),(Sl.ow (owD kInt tyStr) s_2),Sl.dead] (zg9_ (i:=1) nno_d rfl)))))
theorem zbz_ {K:Fgg}:RD_picked_signs K:=zeD_ (K:=K) (N:=["row", "signs", "step"]) (C:=(csLast (tyL tyPass))) (O:=(owOpt (owD kInt tyStr))) (t:=fun E=>zM_ K) (ss:=fun c=>[(Sl.fz (tyL tyPass) c)]) (f:=fun c=>z6_ c) 1 2 zo_ rfl zaf_ fun c E=>zbB_ c
theorem zds_ {K:Fgg}{E:XK}(c:(List Pas)):EvS K (zaB_ K) E [(Sl.fz (tyL tyPass) c),Sl.dead,Sl.dead,Sl.dead] (zaQ_ c) (fun _:Unit=>[]) (fun _:Unit=>[]) (owOpt (owT2 (owD kInt tyStr) (owL tyInt))) :=
 (zbZ_ (i:=1) rfl (zbt_ (zcy_ zaa_)) (zbv_ (zt_ (zc_ 0 rfl))) fun signs_2=>(at_ [(Sl.fz (tyL tyPass) c),(Sl.ow (owOpt (owD kInt tyStr)) signs_2),Sl.dead,Sl.dead] (za4_ (LS:=(fun _:Unit=>[(Sl.fz (tyL tyPass) c),(Sl.ow (owOpt (owD kInt tyStr)) signs_2),Sl.dead,Sl.dead])) (s_if (zE_ (zY_ zez_ (zbH_ (O:=(owOpt (owD kInt tyStr))) 1 rfl) zeE_)) (zbC_ (zbt_ (zdM_ (zcy_ zaa_) (zck_ zz_))) (zdP_ (owT2 (owD kInt tyStr) (owL tyInt)))) (zm_ (S4 .nil))) fun _=>(at_ [(Sl.fz (tyL tyPass) c),(Sl.ow (owOpt (owD kInt tyStr)) signs_2),Sl.dead,Sl.dead] (zfS_ (O:=(owD kInt tyStr)) (i:=1) rfl fun signs_9=>at_ [(Sl.fz (tyL tyPass) c),(Sl.ow (owD kInt tyStr) signs_9),Sl.dead,Sl.dead] (zbZ_ (i:=2) rfl (zck_ zz_) (zfq_ tyInt) fun columns_10=>(at_ [(Sl.fz (tyL tyPass) c),(Sl.ow (owD kInt tyStr) signs_9),(Sl.ow (owL tyInt) columns_10),Sl.dead] (za4_ (LS:=(fun s_11:(List Int)=>[(Sl.fz (tyL tyPass) c),(Sl.ow (owD kInt tyStr) signs_9),(Sl.ow (owL tyInt) s_11),Sl.dead])) (zbK_ (L':=[(Sl.fz (tyL tyPass) c),(Sl.ow (owD kInt tyStr) signs_9),(Sl.ow (owL tyInt) columns_10),Sl.dead]) (S4 .nil) (zfo_ (LS:=(fun s_11:(List Int)=>[(Sl.fz (tyL tyPass) c),(Sl.ow (owD kInt tyStr) signs_9),(Sl.ow (owL tyInt) s_11),Sl.dead])) (s0:=columns_10) (ziZ_ (zt_ (zc_ 0 rfl))) (zaR_ 3) fun s_11 x_13=>at_ [(Sl.fz (tyL tyPass) c),(Sl.ow (owD kInt tyStr) signs_9),(Sl.ow (owL tyInt) s_11),(Sl.fz tyPass x_13)] (zdG_ (za4_ (LS:=(fun s_26:(List Int)=>[(Sl.fz (tyL tyPass) c),(Sl.ow (owD kInt tyStr) signs_9),(Sl.ow (owL tyInt) s_26),(Sl.fz tyPass x_13)])) (s_if (zdz_ (zE_ (zY_ zdY_ (zbk_ (zc_ 3 rfl)) (zcf_ [100,101,97,108]))) (zdz_ (zE_ (zeW_ true (zaj_ (zc_ 3 rfl)) (zek_ 1 rfl))) (zE_ (zY_ (zfh_ zfA_) (zaj_ (zc_ 3 rfl)) (zc1_ 2 rfl))))) (zdG_ (zcs_ (i:=2) rfl zz_ (zaj_ (zc_ 3 rfl)) fun a_28=>(at_ [(Sl.fz (tyL tyPass) c),(Sl.ow (owD kInt tyStr) signs_9),(Sl.ow (owL tyInt) (s_11++[a_28])),(Sl.fz tyPass x_13)] (zm_ (S4 .nil))))) (zm_ (S4 .nil))) fun s_26=>(at_ [(Sl.fz (tyL tyPass) c),(Sl.ow (owD kInt tyStr) signs_9),(Sl.ow (owL tyInt) s_26),(Sl.fz tyPass x_13)] (zm_ (.same (.same (.same (.dead .nil)))))))))) fun s_11=>(at_ [(Sl.fz (tyL tyPass) c),(Sl.ow (owD kInt tyStr) signs_9),(Sl.ow (owL tyInt) s_11),Sl.dead] (zhp_ (i:=1) (j:=2) (by decide) rfl rfl))))))))))
theorem zdt_ {K:Fgg}:RD_sense_of K:=zeD_ (K:=K) (N:=["row", "signs", "columns", "step"]) (C:=(csLast (tyL tyPass))) (O:=(owOpt (owT2 (owD kInt tyStr) (owL tyInt)))) (t:=fun E=>zaB_ K) (ss:=fun c=>[(Sl.fz (tyL tyPass) c)]) (f:=fun c=>zaQ_ c) 1 3 zo_ rfl zaf_ fun c E=>zds_ c
theorem zbO_ {K:Fgg}{E:XK}(w_:V) (x:(Option (Qq1×(List Int)))) (c:Unit):EvS K (z1_ K) E [(Sl.ow (owAt w_ (owOpt (owT2 (owD kInt tyStr) (owL tyInt)))) x)] (zae_ x) (fun x':(Option (Qq1×(List Int)))=>[(Sl.ow (owAt w_ (owOpt (owT2 (owD kInt tyStr) (owL tyInt)))) x')]) (fun _:Unit=>[]) (owRM w_ (owOpt (owT2 (owD kInt tyStr) (owL tyInt))) (owF tyNon)) :=
 (s_if (zE_ (zY_ zfT_ (zbH_ (O:=(owAt w_ (owOpt (owT2 (owD kInt tyStr) (owL tyInt))))) 0 rfl) zeE_)) (zhB_ (i:=0) (ziS_ (zcY_ (zhw_ (zd2_ rfl)))) zaa_ zz_ (zcf_ [88]) (zx_ 99) fun x_10=>(at_ [(Sl.ow (owAt w_ (owOpt (owT2 (owD kInt tyStr) (owL tyInt)))) x_10)] (zdG_ (zdJ_ (i:=0) (ziB_ (zcY_ (zhw_ (zd2_ rfl)))) zz_ (zx_ 0) fun x_16=>(at_ [(Sl.ow (owAt w_ (owOpt (owT2 (owD kInt tyStr) (owL tyInt)))) x_16)] (zm_ (.same .nil))))))) (zm_ (.same .nil)))
theorem zb3_ {K:Fgg}:RD_law_changed K:=zho_ (K:=K) (N:=Qn5) (O:=(owOpt (owT2 (owD kInt tyStr) (owL tyInt)))) (O2:=(owOpt (owT2 (owD kInt tyStr) (owL tyInt)))) (Q:=csNil) (t:=fun E=>z1_ K) (ss:=fun c=>[]) (g:=fun x c=>zae_ x) (LS:=fun w_=>(fun x':(Option (Qq1×(List Int)))=>[(Sl.ow (owAt w_ (owOpt (owT2 (owD kInt tyStr) (owL tyInt)))) x')])) 0 0 zfx_ rfl zgJ_ (fun _ _=>rfl) fun w_ x c E=>zbO_ w_ x c
theorem zcA_ {K:Fgg}{E:XK}(c:(List Pas)):EvS K (zal_ K) E [(Sl.fz (tyL tyPass) c),Sl.dead,Sl.dead] (zaF_ c) (fun _:Unit=>[]) (fun _:Unit=>[]) (owF (tyOpt (tyD kInt tyStr))) :=
 (zbZ_ (i:=1) rfl (zcy_ zaa_) (zfC_ kInt tyStr) fun picks_here_1=>(at_ [(Sl.fz (tyL tyPass) c),(Sl.ow (owD kInt tyStr) picks_here_1),Sl.dead] (za4_ (LS:=(fun s_2:Qq1=>[(Sl.fz (tyL tyPass) c),(Sl.ow (owD kInt tyStr) s_2),Sl.dead])) (zbK_ (L':=[(Sl.fz (tyL tyPass) c),(Sl.ow (owD kInt tyStr) picks_here_1),Sl.dead]) (.same (.same (.same .nil))) (zfo_ (LS:=(fun s_2:Qq1=>[(Sl.fz (tyL tyPass) c),(Sl.ow (owD kInt tyStr) s_2),Sl.dead])) (s0:=picks_here_1) (ei_l (zc_ 0 rfl)) (zaR_ 2) fun s_2 x_3=>at_ [(Sl.fz (tyL tyPass) c),(Sl.ow (owD kInt tyStr) s_2),(Sl.fz tyPass x_3)] (zdG_ (za4_ (LS:=(fun s_8:Qq1=>[(Sl.fz (tyL tyPass) c),(Sl.ow (owD kInt tyStr) s_8),(Sl.fz tyPass x_3)])) (s_if (zE_ (zY_ zdY_ (zbk_ (zc_ 2 rfl)) (zcf_ [112,105,99,107]))) (za4_ (LS:=(fun _:Unit=>[(Sl.fz (tyL tyPass) c),(Sl.ow (owD kInt tyStr) s_2),(Sl.fz tyPass x_3)])) (s_if (zdz_ (zE_ (zeW_ false (zaj_ (zc_ 2 rfl)) (zek_ 1 rfl))) (zE_ (zY_ zg4_ (zhO_ (zek_ 1 rfl) (zaj_ (zc_ 2 rfl))) (zbg_ (zc_ 2 rfl))))) (zhv_ (EvF.ow zic_)) (zm_ (.same (.same (.same .nil))))) fun _=>(at_ [(Sl.fz (tyL tyPass) c),(Sl.ow (owD kInt tyStr) s_2),(Sl.fz tyPass x_3)] (zdG_ (zi9_ (i:=1) rfl zaa_ zz_ (zbg_ (zc_ 2 rfl)) (zaj_ (zc_ 2 rfl)) fun a_24 y_25=>(at_ [(Sl.fz (tyL tyPass) c),(Sl.ow (owD kInt tyStr) (putA s_2 y_25 a_24)),(Sl.fz tyPass x_3)] (zm_ (.same (.same (.same .nil))))))))) (zm_ (.same (.same (.same .nil))))) fun s_8=>(at_ [(Sl.fz (tyL tyPass) c),(Sl.ow (owD kInt tyStr) s_8),(Sl.fz tyPass x_3)] (zm_ (.same (.same (.dead .nil))))))))) fun s_2=>(at_ [(Sl.fz (tyL tyPass) c),(Sl.ow (owD kInt tyStr) s_2),Sl.dead] (zip_ (i:=1) rfl (at_ [(Sl.fz (tyL tyPass) c),(Sl.fz (tyD kInt tyStr) s_2),Sl.dead] (zhv_ (EvF.ow (zgT_ (fun _ _ _=>zh5_) (zc_ 1 rfl))))))))))
theorem zcV_ {K:Fgg}:RD_law_picks K:=zeD_ (K:=K) (N:=Qn9) (C:=(csLast (tyL tyPass))) (O:=(owF (tyOpt (tyD kInt tyStr)))) (t:=fun E=>zal_ K) (ss:=fun c=>[(Sl.fz (tyL tyPass) c)]) (f:=fun c=>zaF_ c) 1 2 zo_ rfl zaf_ fun c E=>zcA_ c
theorem zbm_ {K:Fgg}{E:XK}(c:((List Pas)×Int)):EvS K (zJ_ K) E [(Sl.fz (tyL tyPass) c.1),(Sl.fz tyInt c.2),Sl.dead,Sl.dead] (zX_ c.1 c.2) (fun _:Unit=>[]) (fun _:Unit=>[]) (owF tyInt) :=
 (zc6_ (i:=2) rfl zz_ (ziX_ (zx_ 1)) fun last_1=>(at_ [(Sl.fz (tyL tyPass) c.1),(Sl.fz tyInt c.2),(Sl.fz tyInt last_1),Sl.dead] (za4_ (LS:=(fun s_3:Int=>[(Sl.fz (tyL tyPass) c.1),(Sl.fz tyInt c.2),(Sl.fz tyInt s_3),Sl.dead])) (zbK_ (L':=[(Sl.fz (tyL tyPass) c.1),(Sl.fz tyInt c.2),(Sl.fz tyInt last_1),Sl.dead]) (S4 .nil) (zfo_ (LS:=(fun s_3:Int=>[(Sl.fz (tyL tyPass) c.1),(Sl.fz tyInt c.2),(Sl.fz tyInt s_3),Sl.dead])) (s0:=last_1) (zhi_ (zt_ (zhm_ zea_ (zt_ (zc_ 0 rfl))))) (zaR_ 3) fun s_3 x_6=>at_ [(Sl.fz (tyL tyPass) c.1),(Sl.fz tyInt c.2),(Sl.fz tyInt s_3),(Sl.fz tyInt x_6)] (zdG_ (za4_ (LS:=(fun s_13:Int=>[(Sl.fz (tyL tyPass) c.1),(Sl.fz tyInt c.2),(Sl.fz tyInt s_13),(Sl.fz tyInt x_6)])) (s_if (zE_ (zY_ ziC_ (zY_ zgw_ (zc_ 0 rfl) (zc_ 3 rfl)) (zew_ (zc_ 1 rfl)))) (zdG_ (zc6_ (i:=2) rfl zz_ (zc_ 3 rfl) fun last_14=>(at_ [(Sl.fz (tyL tyPass) c.1),(Sl.fz tyInt c.2),(Sl.fz tyInt last_14),(Sl.fz tyInt x_6)] (zm_ (S4 .nil))))) (zm_ (S4 .nil))) fun s_13=>(at_ [(Sl.fz (tyL tyPass) c.1),(Sl.fz tyInt c.2),(Sl.fz tyInt s_13),(Sl.fz tyInt x_6)] (zm_ (.same (.same (.same (.dead .nil)))))))))) fun s_3=>(at_ [(Sl.fz (tyL tyPass) c.1),(Sl.fz tyInt c.2),(Sl.fz tyInt s_3),Sl.dead] (zbC_ (zaq_ zz_) (EvF.ow (zc_ 2 rfl)))))))
theorem zbh_ {K:Fgg}:RD_law_last_deal K:=zeD_ (K:=K) (N:=Qn8) (C:=(csCons (tyL tyPass) (csLast tyInt))) (O:=(owF tyInt)) (t:=fun E=>zJ_ K) (ss:=fun c=>[(Sl.fz (tyL tyPass) c.1),(Sl.fz tyInt c.2)]) (f:=fun c=>zX_ c.1 c.2) 2 2 (zl_ zo_) rfl (zar_ zaf_) fun c E=>zbm_ c
theorem zcv_ {K:Fgg}{E:XK}(c:Int):EvS K (zao_ K) E [(Sl.fz tyInt c)] (zaZ_ c) (fun _:Unit=>[]) (fun _:Unit=>[]) (owF tyBl) :=
 (zbC_ (zaq_ zaO_) (EvF.ow (ziw_ (ze2_ zg2_ (zc_ 0 rfl)) (zi6_ (ze2_ zg2_ (zc_ 0 rfl))))))
theorem zcH_ {K:Fgg}:RD_law_whole K:=zeD_ (K:=K) (N:=Qn5) (C:=(csLast tyInt)) (O:=(owF tyBl)) (t:=fun E=>zao_ K) (ss:=fun c=>[(Sl.fz tyInt c)]) (f:=fun c=>zaZ_ c) 1 0 zo_ rfl zaf_ fun c E=>zcv_ c
theorem zdX_ {K:Fgg}{E:XK}(c:((List Int)×(Qq1×(List Pas)))):EvS K (zaM_ K) E [(Sl.fz (tyL tyInt) c.1),(Sl.fz (tyD kInt tyStr) c.2.1),(Sl.fz (tyL tyPass) c.2.2),Sl.dead,Sl.dead,Sl.dead,Sl.dead] (za9_ c.1 c.2.1 c.2.2) (fun _:Unit=>[]) (fun _:Unit=>[]) (owF tyBl) :=
 (zc6_ (i:=3) rfl zz_ (zhm_ zea_ (zt_ (zc_ 2 rfl))) fun before_1=>(at_ [(Sl.fz (tyL tyInt) c.1),(Sl.fz (tyD kInt tyStr) c.2.1),(Sl.fz (tyL tyPass) c.2.2),(Sl.fz tyInt before_1),Sl.dead,Sl.dead,Sl.dead] (za4_ (LS:=(fun s_3:Int=>[(Sl.fz (tyL tyInt) c.1),(Sl.fz (tyD kInt tyStr) c.2.1),(Sl.fz (tyL tyPass) c.2.2),(Sl.fz tyInt s_3),Sl.dead,Sl.dead,Sl.dead])) (zbK_ (L':=[(Sl.fz (tyL tyInt) c.1),(Sl.fz (tyD kInt tyStr) c.2.1),(Sl.fz (tyL tyPass) c.2.2),(Sl.fz tyInt before_1),Sl.dead,Sl.dead,Sl.dead]) (S4 (.same (.same (.same .nil)))) (zfo_ (LS:=(fun s_3:Int=>[(Sl.fz (tyL tyInt) c.1),(Sl.fz (tyD kInt tyStr) c.2.1),(Sl.fz (tyL tyPass) c.2.2),(Sl.fz tyInt s_3),Sl.dead,Sl.dead,Sl.dead])) (s0:=before_1) (ei_l (zc_ 0 rfl)) (zaR_ 4) fun s_3 x_4=>at_ [(Sl.fz (tyL tyInt) c.1),(Sl.fz (tyD kInt tyStr) c.2.1),(Sl.fz (tyL tyPass) c.2.2),(Sl.fz tyInt s_3),(Sl.fz tyInt x_4),Sl.dead,Sl.dead] (za4_ (LS:=(fun _:Unit=>[(Sl.fz (tyL tyInt) c.1),(Sl.fz (tyD kInt tyStr) c.2.1),(Sl.fz (tyL tyPass) c.2.2),(Sl.fz tyInt s_3),(Sl.fz tyInt x_4),Sl.dead,Sl.dead])) (s_if (zfJ_ (zb4_ (zE_ (zK_ (zt_ (zc_ 4 rfl))))) (zE_ (zeW_ false (zc_ 4 rfl) (zc_ 1 rfl)))) (zbC_ (zaq_ zaO_) (EvF.ow (ze1_ false))) (zm_ (S4 (.same (.same (.same .nil)))))) fun _=>(at_ [(Sl.fz (tyL tyInt) c.1),(Sl.fz (tyD kInt tyStr) c.2.1),(Sl.fz (tyL tyPass) c.2.2),(Sl.fz tyInt s_3),(Sl.fz tyInt x_4),Sl.dead,Sl.dead] (zc6_ (i:=5) rfl zz_ (zK_ (zT_ (zc_ 2 rfl) (zt_ (zc_ 4 rfl)))) fun last_13=>(at_ [(Sl.fz (tyL tyInt) c.1),(Sl.fz (tyD kInt tyStr) c.2.1),(Sl.fz (tyL tyPass) c.2.2),(Sl.fz tyInt s_3),(Sl.fz tyInt x_4),(Sl.fz tyInt last_13),Sl.dead] (za4_ (LS:=(fun _:Unit=>[(Sl.fz (tyL tyInt) c.1),(Sl.fz (tyD kInt tyStr) c.2.1),(Sl.fz (tyL tyPass) c.2.2),(Sl.fz tyInt s_3),(Sl.fz tyInt x_4),(Sl.fz tyInt last_13),Sl.dead])) (s_if (zfJ_ (zE_ (zY_ zes_ (zc_ 5 rfl) (zx_ 0))) (zE_ (zY_ zhx_ (zc_ 5 rfl) (zc_ 3 rfl)))) (zbC_ (zaq_ zaO_) (EvF.ow (ze1_ false))) (zm_ (S4 (.same (.same (.same .nil)))))) fun _=>(at_ [(Sl.fz (tyL tyInt) c.1),(Sl.fz (tyD kInt tyStr) c.2.1),(Sl.fz (tyL tyPass) c.2.2),(Sl.fz tyInt s_3),(Sl.fz tyInt x_4),(Sl.fz tyInt last_13),Sl.dead] (zdG_ (zc6_ (i:=3) rfl zz_ (zc_ 5 rfl) fun before_25=>(at_ [(Sl.fz (tyL tyInt) c.1),(Sl.fz (tyD kInt tyStr) c.2.1),(Sl.fz (tyL tyPass) c.2.2),(Sl.fz tyInt before_25),(Sl.fz tyInt x_4),(Sl.fz tyInt last_13),Sl.dead] (zm_ (S4 (.dead (.dead (.same .nil)))))))))))))))) fun s_3=>(at_ [(Sl.fz (tyL tyInt) c.1),(Sl.fz (tyD kInt tyStr) c.2.1),(Sl.fz (tyL tyPass) c.2.2),(Sl.fz tyInt s_3),Sl.dead,Sl.dead,Sl.dead] (za4_ (LS:=(fun _:Unit=>[(Sl.fz (tyL tyInt) c.1),(Sl.fz (tyD kInt tyStr) c.2.1),(Sl.fz (tyL tyPass) c.2.2),(Sl.fz tyInt s_3),Sl.dead,Sl.dead,Sl.dead])) (zbK_ (L':=[(Sl.fz (tyL tyInt) c.1),(Sl.fz (tyD kInt tyStr) c.2.1),(Sl.fz (tyL tyPass) c.2.2),(Sl.fz tyInt s_3),Sl.dead,Sl.dead,Sl.dead]) (S4 (.same (.same (.same .nil)))) (zfo_ (LS:=(fun _:Unit=>[(Sl.fz (tyL tyInt) c.1),(Sl.fz (tyD kInt tyStr) c.2.1),(Sl.fz (tyL tyPass) c.2.2),(Sl.fz tyInt s_3),Sl.dead,Sl.dead,Sl.dead])) (s0:=()) (ei_l (zc_ 2 rfl)) (zaR_ 6) fun _ x_28=>at_ [(Sl.fz (tyL tyInt) c.1),(Sl.fz (tyD kInt tyStr) c.2.1),(Sl.fz (tyL tyPass) c.2.2),(Sl.fz tyInt s_3),Sl.dead,Sl.dead,(Sl.fz tyPass x_28)] (s_if (zdz_ (zE_ (zY_ zdY_ (zbk_ (zc_ 6 rfl)) (zcf_ [100,101,97,108]))) (zdz_ (zE_ (zeW_ true (zaj_ (zc_ 6 rfl)) (zc_ 1 rfl))) (zE_ (zY_ (zfh_ zfA_) (zaj_ (zc_ 6 rfl)) (zc_ 0 rfl))))) (zbC_ (zaq_ zaO_) (EvF.ow (ze1_ false))) (zm_ (S4 (.same (.same (.dead .nil)))))))) fun _=>(at_ [(Sl.fz (tyL tyInt) c.1),(Sl.fz (tyD kInt tyStr) c.2.1),(Sl.fz (tyL tyPass) c.2.2),(Sl.fz tyInt s_3),Sl.dead,Sl.dead,Sl.dead] (zbC_ (zaq_ zaO_) (EvF.ow (ze1_ true)))))))))
theorem zeb_ {K:Fgg}:RD_law_key K:=zeD_ (K:=K) (N:=Qn2) (C:=(csCons (tyL tyInt) (csCons (tyD kInt tyStr) (csLast (tyL tyPass))))) (O:=(owF tyBl)) (t:=fun E=>zaM_ K) (ss:=fun c=>[(Sl.fz (tyL tyInt) c.1),(Sl.fz (tyD kInt tyStr) c.2.1),(Sl.fz (tyL tyPass) c.2.2)]) (f:=fun c=>za9_ c.1 c.2.1 c.2.2) 3 4 (zl_ (zl_ zo_)) rfl (zar_ (zar_ zaf_)) fun c E=>zdX_ c
theorem zdk_ {K:Fgg}{E:XK}(c:((Option (Qq1×(List Int)))×(List Pas))):EvS K (zaD_ K) E [(Sl.fz Qq0 c.1),(Sl.fz (tyL tyPass) c.2),Sl.dead,Sl.dead,Sl.dead] (zaA_ c.1 c.2) (fun _:Unit=>[]) (fun _:Unit=>[]) (owF tyBl) :=
 (ziy_ (i:=2) rfl (zK_ (zt_ (zc_ 1 rfl))) fun picks_here_2=>(at_ [(Sl.fz Qq0 c.1),(Sl.fz (tyL tyPass) c.2),(Sl.fz (tyOpt (tyD kInt tyStr)) picks_here_2),Sl.dead,Sl.dead] (za4_ (LS:=(fun _:Unit=>[(Sl.fz Qq0 c.1),(Sl.fz (tyL tyPass) c.2),(Sl.fz (tyOpt (tyD kInt tyStr)) picks_here_2),Sl.dead,Sl.dead])) (s_if (zE_ (zY_ zez_ (zc_ 2 rfl) zeE_)) (zbC_ (zaq_ zaO_) (EvF.ow (zY_ zez_ (zc_ 0 rfl) zeE_))) (zm_ (S4 (.same .nil)))) fun _=>(at_ [(Sl.fz Qq0 c.1),(Sl.fz (tyL tyPass) c.2),(Sl.fz (tyOpt (tyD kInt tyStr)) picks_here_2),Sl.dead,Sl.dead] (zhj_ (T:=(tyD kInt tyStr)) (i:=2) rfl fun picks_here_11=>at_ [(Sl.fz Qq0 c.1),(Sl.fz (tyL tyPass) c.2),(Sl.fz (tyD kInt tyStr) picks_here_11),Sl.dead,Sl.dead] (za4_ (LS:=(fun _:Unit=>[(Sl.fz Qq0 c.1),(Sl.fz (tyL tyPass) c.2),(Sl.fz (tyD kInt tyStr) picks_here_11),Sl.dead,Sl.dead])) (s_if (zfJ_ (zb4_ (zE_ (zhl_ ziQ_ (zc_ 0 rfl)))) (zE_ (zY_ ziR_ (zhm_ (zg8_ (zl_ zo_)) (zt_ (za2_ (zc_ 0 rfl)))) (zx_ 2)))) (zbC_ (zaq_ zaO_) (EvF.ow (ze1_ false))) (zm_ (S4 (.same .nil)))) fun _=>(at_ [(Sl.fz Qq0 c.1),(Sl.fz (tyL tyPass) c.2),(Sl.fz (tyD kInt tyStr) picks_here_11),Sl.dead,Sl.dead] (za4_ (LS:=(fun _:Unit=>[(Sl.fz Qq0 c.1),(Sl.fz (tyL tyPass) c.2),(Sl.fz (tyD kInt tyStr) picks_here_11),Sl.dead,Sl.dead])) (s_if (zfJ_ (zb4_ (zE_ (zhE_ (zey_ (i:=0) at_0 (za2_ (zc_ 0 rfl)))))) (zfJ_ (zb4_ (zE_ (ze2_ tn_l (zey_ (i:=1) (at_s zfg_) (za2_ (zc_ 0 rfl)))))) (zE_ (zY_ zgL_ (zey_ (i:=0) at_0 (za2_ (zc_ 0 rfl))) (zc_ 2 rfl))))) (zbC_ (zaq_ zaO_) (EvF.ow (ze1_ false))) (zm_ (S4 (.same .nil)))) fun _=>(at_ [(Sl.fz Qq0 c.1),(Sl.fz (tyL tyPass) c.2),(Sl.fz (tyD kInt tyStr) picks_here_11),Sl.dead,Sl.dead] (za4_ (LS:=(fun _:Unit=>[(Sl.fz Qq0 c.1),(Sl.fz (tyL tyPass) c.2),(Sl.fz (tyD kInt tyStr) picks_here_11),Sl.dead,Sl.dead])) (zbK_ (L':=[(Sl.fz Qq0 c.1),(Sl.fz (tyL tyPass) c.2),(Sl.fz (tyD kInt tyStr) picks_here_11),Sl.dead,Sl.dead]) (S4 (.same .nil)) (zhq_ (KY:=kInt) (T:=tyStr) (Lk:=[(Sl.fz Qq0 c.1),(Sl.fz (tyL tyPass) c.2),(Sl.fz (tyD kInt tyStr) picks_here_11),Sl.dead,Sl.dead]) (Li:=fun w_43=>[(Sl.fz tyV0 (w_43 0)),(Sl.fz tyV0 (w_43 1)),(Sl.fz tyV0 (w_43 2)),Sl.dead,Sl.dead]) zaa_ zz_ zjd_ (zey_ (i:=0) at_0 (za2_ (zc_ 0 rfl))) (zjg_ (zl_ zo_) (zhg_ 3 (zhW_ (zaR_ 4)))) (fun _=>(.keep (.keep (.keep (.dead (.dead .nil)))))) (zaq_ zaO_) fun w_43 x_42=>at_ [(Sl.fz tyV0 (w_43 0)),(Sl.fz tyV0 (w_43 1)),(Sl.fz tyV0 (w_43 2)),(Sl.fz tyInt x_42.1),(Sl.fz tyStr x_42.2)] (s_if (zfJ_ (zb4_ (zE_ (zK_ (zt_ (zc_ 3 rfl))))) (zb4_ (zE_ (ze2_ ziN_ (zc_ 4 rfl))))) (zbC_ (zaq_ zaO_) (EvF.ow (ze1_ false))) (zm_ (.same (.same (.same (.dead (.dead .nil))))))))) fun _=>(at_ [(Sl.fz Qq0 c.1),(Sl.fz (tyL tyPass) c.2),(Sl.fz (tyD kInt tyStr) picks_here_11),Sl.dead,Sl.dead] (zbC_ (zaq_ zaO_) (EvF.ow (zK_ (zT_ (zey_ (i:=1) (at_s zfg_) (za2_ (zc_ 0 rfl))) (zT_ (zc_ 2 rfl) (zt_ (zc_ 1 rfl))))))))))))))))))
theorem zdD_ {K:Fgg}:RD_law_good K:=zeD_ (K:=K) (N:=Qn4) (C:=(csCons Qq0 (csLast (tyL tyPass)))) (O:=(owF tyBl)) (t:=fun E=>zaD_ K) (ss:=fun c=>[(Sl.fz Qq0 c.1),(Sl.fz (tyL tyPass) c.2)]) (f:=fun c=>zaA_ c.1 c.2) 2 3 (zl_ zo_) rfl (zar_ zaf_) fun c E=>zdk_ c
theorem zdp_ {K:Fgg}{E:XK}(c:(Int×((List Nat)×(Int×(Int×Int))))):EvS K (zaC_ K) E [(Sl.fz tyInt c.1),(Sl.fz tyStr c.2.1),(Sl.fz tyInt c.2.2.1),(Sl.fz tyInt c.2.2.2.1),(Sl.fz tyInt c.2.2.2.2),Sl.dead,Sl.dead,Sl.dead] (zaN_ c.1 c.2.1 c.2.2.1 c.2.2.2.1 c.2.2.2.2) (fun _:Unit=>[]) (fun _:Unit=>[]) (owF tyPass) :=
 (zc6_ (i:=5) rfl zaa_ (zcf_ SG) fun signs_1=>(at_ [(Sl.fz tyInt c.1),(Sl.fz tyStr c.2.1),(Sl.fz tyInt c.2.2.1),(Sl.fz tyInt c.2.2.2.1),(Sl.fz tyInt c.2.2.2.2),(Sl.fz tyStr signs_1),Sl.dead,Sl.dead] (zc6_ (i:=6) rfl zz_ (zY_ zb8_ (zY_ zaw_ (zc_ 0 rfl) (zx_ 2147483647)) (zx_ 69621)) fun number_2=>(at_ [(Sl.fz tyInt c.1),(Sl.fz tyStr c.2.1),(Sl.fz tyInt c.2.2.1),(Sl.fz tyInt c.2.2.2.1),(Sl.fz tyInt c.2.2.2.2),(Sl.fz tyStr signs_1),(Sl.fz tyInt number_2),Sl.dead] (zc6_ (i:=6) rfl zz_ (zY_ zaw_ (zY_ zfW_ (zc_ 6 rfl) (zc_ 6 rfl)) (zx_ 2147483629)) fun number_7=>(at_ [(Sl.fz tyInt c.1),(Sl.fz tyStr c.2.1),(Sl.fz tyInt c.2.2.1),(Sl.fz tyInt c.2.2.2.1),(Sl.fz tyInt c.2.2.2.2),(Sl.fz tyStr signs_1),(Sl.fz tyInt number_7),Sl.dead] (zc6_ (i:=7) rfl zz_ (zY_ zb8_ (zx_ 1) (zY_ zaw_ (zY_ zb8_ (zc_ 2 rfl) (zY_ zaw_ (zY_ zbq_ (zc_ 6 rfl) (zx_ 8)) (zc_ 3 rfl))) (zx_ 36))) fun column_12=>(at_ [(Sl.fz tyInt c.1),(Sl.fz tyStr c.2.1),(Sl.fz tyInt c.2.2.1),(Sl.fz tyInt c.2.2.2.1),(Sl.fz tyInt c.2.2.2.2),(Sl.fz tyStr signs_1),(Sl.fz tyInt number_7),(Sl.fz tyInt column_12)] (za4_ (LS:=(fun _:Unit=>[(Sl.fz tyInt c.1),(Sl.fz tyStr c.2.1),(Sl.fz tyInt c.2.2.1),(Sl.fz tyInt c.2.2.2.1),(Sl.fz tyInt c.2.2.2.2),(Sl.fz tyStr signs_1),(Sl.fz tyInt number_7),(Sl.fz tyInt column_12)])) (s_if (zE_ (zY_ zhx_ (zY_ zaw_ (zc_ 6 rfl) (zx_ 8)) (zc_ 4 rfl))) (zbC_ (zaq_ zat_) (EvF.ow (zew_ (zc_ 7 rfl)))) (zm_ (S4 (S4 .nil)))) fun _=>(at_ [(Sl.fz tyInt c.1),(Sl.fz tyStr c.2.1),(Sl.fz tyInt c.2.2.1),(Sl.fz tyInt c.2.2.2.1),(Sl.fz tyInt c.2.2.2.2),(Sl.fz tyStr signs_1),(Sl.fz tyInt number_7),(Sl.fz tyInt column_12)] (za4_ (LS:=(fun _:Unit=>[(Sl.fz tyInt c.1),(Sl.fz tyStr c.2.1),(Sl.fz tyInt c.2.2.1),(Sl.fz tyInt c.2.2.2.1),(Sl.fz tyInt c.2.2.2.2),(Sl.fz tyStr signs_1),(Sl.fz tyInt number_7),(Sl.fz tyInt column_12)])) (s_if (zE_ (zY_ zji_ (zY_ zaw_ (zY_ zbq_ (zc_ 6 rfl) (zx_ 512)) (zx_ 7)) (zx_ 1))) (zbC_ (zaq_ zat_) (EvF.ow (zd6_ (zc_ 7 rfl) (zY_ zfO_ (zc_ 5 rfl) (zY_ zaw_ (zY_ zbq_ (zc_ 6 rfl) (zx_ 4096)) (zx_ 37)))))) (zm_ (S4 (S4 .nil)))) fun _=>(at_ [(Sl.fz tyInt c.1),(Sl.fz tyStr c.2.1),(Sl.fz tyInt c.2.2.1),(Sl.fz tyInt c.2.2.2.1),(Sl.fz tyInt c.2.2.2.2),(Sl.fz tyStr signs_1),(Sl.fz tyInt number_7),(Sl.fz tyInt column_12)] (zbC_ (zaq_ zat_) (EvF.ow (zd6_ (zc_ 7 rfl) (zY_ zfO_ (zc_ 1 rfl) (zY_ zhV_ (zc_ 7 rfl) (zx_ 1))))))))))))))))))
theorem zdy_ {K:Fgg}:RD_law_pass K:=zeD_ (K:=K) (N:=Qn1) (C:=(csCons tyInt (csCons tyStr (csCons tyInt (csCons tyInt (csLast tyInt)))))) (O:=(owF tyPass)) (t:=fun E=>zaC_ K) (ss:=fun c=>[(Sl.fz tyInt c.1),(Sl.fz tyStr c.2.1),(Sl.fz tyInt c.2.2.1),(Sl.fz tyInt c.2.2.2.1),(Sl.fz tyInt c.2.2.2.2)]) (f:=fun c=>zaN_ c.1 c.2.1 c.2.2.1 c.2.2.2.1 c.2.2.2.2) 5 3 (zl_ (zl_ (zl_ (zl_ zo_)))) rfl (zar_ (zar_ (zar_ (zar_ zaf_)))) fun c E=>zdp_ c
theorem ziH_ {K:Fgg}{E:XK}(c:(List Int)):EvS K (zgP_ K) E [(Sl.fz (tySc K) c),Sl.dead,Sl.dead,Sl.dead,Sl.dead,Sl.dead,Sl.dead,Sl.dead,Sl.dead,Sl.dead,Sl.dead,Sl.dead] (ziq_ c) (fun _:Unit=>[]) (fun _:Unit=>[]) (owF tyBl) :=
 (zc6_ (i:=1) rfl zaa_ (zcf_ SG) fun signs_1=>(at_ [(Sl.fz (tySc K) c),(Sl.fz tyStr signs_1),Sl.dead,Sl.dead,Sl.dead,Sl.dead,Sl.dead,Sl.dead,Sl.dead,Sl.dead,Sl.dead,Sl.dead] (zc6_ (i:=2) rfl zz_ (zK_ (zT_ (zc_ 0 rfl) (zt_ (zx_ 0)))) fun ways_2=>(at_ [(Sl.fz (tySc K) c),(Sl.fz tyStr signs_1),(Sl.fz tyInt ways_2),Sl.dead,Sl.dead,Sl.dead,Sl.dead,Sl.dead,Sl.dead,Sl.dead,Sl.dead,Sl.dead] (zc6_ (i:=3) rfl zz_ (zY_ zaw_ (zK_ (zT_ (zc_ 0 rfl) (zt_ (zx_ 1)))) (zx_ 36)) fun start_6=>(at_ [(Sl.fz (tySc K) c),(Sl.fz tyStr signs_1),(Sl.fz tyInt ways_2),(Sl.fz tyInt start_6),Sl.dead,Sl.dead,Sl.dead,Sl.dead,Sl.dead,Sl.dead,Sl.dead,Sl.dead] (zc6_ (i:=4) rfl zaa_ (zY_ zhu_ (zie_ (zc_ 1 rfl) (zio_ (zc_ 3 rfl)) ep_no) (zie_ (zc_ 1 rfl) ep_no (zio_ (zc_ 3 rfl)))) fun hero_12=>(at_ [(Sl.fz (tySc K) c),(Sl.fz tyStr signs_1),(Sl.fz tyInt ways_2),(Sl.fz tyInt start_6),(Sl.fz tyStr hero_12),Sl.dead,Sl.dead,Sl.dead,Sl.dead,Sl.dead,Sl.dead,Sl.dead] (zc6_ (i:=5) rfl zz_ (zY_ zgw_ (EvO.fr (zgm_ (zl_ (zl_ (zl_ zo_))) (zbx_ (zbx_ (zbx_ zcx_))) (zT_ (zx_ 2) (zT_ (zx_ 1) (zT_ (zx_ 4) (zt_ (zx_ 36))))))) (zY_ zaw_ (zc_ 2 rfl) (zx_ 4))) fun reach_23=>(at_ [(Sl.fz (tySc K) c),(Sl.fz tyStr signs_1),(Sl.fz tyInt ways_2),(Sl.fz tyInt start_6),(Sl.fz tyStr hero_12),(Sl.fz tyInt reach_23),Sl.dead,Sl.dead,Sl.dead,Sl.dead,Sl.dead,Sl.dead] (zbZ_ (i:=6) rfl (zck_ zat_) (zfq_ tyPass) fun row_35=>(at_ [(Sl.fz (tySc K) c),(Sl.fz tyStr signs_1),(Sl.fz tyInt ways_2),(Sl.fz tyInt start_6),(Sl.fz tyStr hero_12),(Sl.fz tyInt reach_23),(Sl.ow (owL tyPass) row_35),Sl.dead,Sl.dead,Sl.dead,Sl.dead,Sl.dead] (za4_ (LS:=(fun s_36:(List Pas)=>[(Sl.fz (tySc K) c),(Sl.fz tyStr signs_1),(Sl.fz tyInt ways_2),(Sl.fz tyInt start_6),(Sl.fz tyStr hero_12),(Sl.fz tyInt reach_23),(Sl.ow (owL tyPass) s_36),Sl.dead,Sl.dead,Sl.dead,Sl.dead,Sl.dead])) (zbK_ (L':=[(Sl.fz (tySc K) c),(Sl.fz tyStr signs_1),(Sl.fz tyInt ways_2),(Sl.fz tyInt start_6),(Sl.fz tyStr hero_12),(Sl.fz tyInt reach_23),(Sl.ow (owL tyPass) row_35),Sl.dead,Sl.dead,Sl.dead,Sl.dead,Sl.dead]) (S4 (S4 (S4 .nil))) (zfo_ (LS:=(fun s_36:(List Pas)=>[(Sl.fz (tySc K) c),(Sl.fz tyStr signs_1),(Sl.fz tyInt ways_2),(Sl.fz tyInt start_6),(Sl.fz tyStr hero_12),(Sl.fz tyInt reach_23),(Sl.ow (owL tyPass) s_36),Sl.dead,Sl.dead,Sl.dead,Sl.dead,Sl.dead])) (s0:=row_35) (ei_l (EvO.fr (zhL_ (zc_ 0 rfl) (zio_ (zx_ 2)) (zio_ (zx_ 102))))) (zaR_ 7) fun s_36 x_42=>at_ [(Sl.fz (tySc K) c),(Sl.fz tyStr signs_1),(Sl.fz tyInt ways_2),(Sl.fz tyInt start_6),(Sl.fz tyStr hero_12),(Sl.fz tyInt reach_23),(Sl.ow (owL tyPass) s_36),(Sl.fz tyInt x_42),Sl.dead,Sl.dead,Sl.dead,Sl.dead] (zdG_ (zcs_ (i:=6) rfl zat_ (zK_ (zT_ (zc_ 7 rfl) (zT_ (zc_ 4 rfl) (zT_ (zc_ 3 rfl) (zT_ (zc_ 5 rfl) (zt_ (zY_ zgw_ (EvO.fr (zgm_ (zl_ (zl_ zo_)) (zbx_ (zbx_ zcx_)) (zT_ (zx_ 2) (zT_ (zx_ 0) (zt_ (zx_ 4)))))) (zY_ zaw_ (zY_ zbq_ (zc_ 2 rfl) (zx_ 4)) (zx_ 3))))))))) fun a_63=>(at_ [(Sl.fz (tySc K) c),(Sl.fz tyStr signs_1),(Sl.fz tyInt ways_2),(Sl.fz tyInt start_6),(Sl.fz tyStr hero_12),(Sl.fz tyInt reach_23),(Sl.ow (owL tyPass) (s_36++[a_63])),(Sl.fz tyInt x_42),Sl.dead,Sl.dead,Sl.dead,Sl.dead] (zm_ (S4 (.same (.same (.same (.dead (S4 .nil)))))))))))) fun s_36=>(at_ [(Sl.fz (tySc K) c),(Sl.fz tyStr signs_1),(Sl.fz tyInt ways_2),(Sl.fz tyInt start_6),(Sl.fz tyStr hero_12),(Sl.fz tyInt reach_23),(Sl.ow (owL tyPass) s_36),Sl.dead,Sl.dead,Sl.dead,Sl.dead,Sl.dead] (zbZ_ (i:=8) rfl (zck_ zat_) (zhP_ zfy_ (zt_ (zc1_ 6 rfl))) fun spoilt_65=>zip_ (i:=8) rfl (at_ [(Sl.fz (tySc K) c),(Sl.fz tyStr signs_1),(Sl.fz tyInt ways_2),(Sl.fz tyInt start_6),(Sl.fz tyStr hero_12),(Sl.fz tyInt reach_23),(Sl.ow (owL tyPass) s_36),Sl.dead,(Sl.fz (tyL tyPass) spoilt_65),Sl.dead,Sl.dead,Sl.dead] (zip_ (i:=6) rfl (at_ [(Sl.fz (tySc K) c),(Sl.fz tyStr signs_1),(Sl.fz tyInt ways_2),(Sl.fz tyInt start_6),(Sl.fz tyStr hero_12),(Sl.fz tyInt reach_23),(Sl.fz (tyL tyPass) s_36),Sl.dead,(Sl.fz (tyL tyPass) spoilt_65),Sl.dead,Sl.dead,Sl.dead] (za4_ (LS:=(fun s_67:(List Pas)=>[(Sl.fz (tySc K) c),(Sl.fz tyStr signs_1),(Sl.fz tyInt ways_2),(Sl.fz tyInt start_6),(Sl.fz tyStr hero_12),(Sl.fz tyInt reach_23),(Sl.fz (tyL tyPass) s_36),Sl.dead,(Sl.fz (tyL tyPass) s_67),Sl.dead,Sl.dead,Sl.dead])) (zbK_ (L':=[(Sl.fz (tySc K) c),(Sl.fz tyStr signs_1),(Sl.fz tyInt ways_2),(Sl.fz tyInt start_6),(Sl.fz tyStr hero_12),(Sl.fz tyInt reach_23),(Sl.fz (tyL tyPass) s_36),Sl.dead,(Sl.fz (tyL tyPass) spoilt_65),Sl.dead,Sl.dead,Sl.dead]) (S4 (S4 (S4 .nil))) (zfo_ (LS:=(fun s_67:(List Pas)=>[(Sl.fz (tySc K) c),(Sl.fz tyStr signs_1),(Sl.fz tyInt ways_2),(Sl.fz tyInt start_6),(Sl.fz tyStr hero_12),(Sl.fz tyInt reach_23),(Sl.fz (tyL tyPass) s_36),Sl.dead,(Sl.fz (tyL tyPass) s_67),Sl.dead,Sl.dead,Sl.dead])) (s0:=spoilt_65) (ei_l (zc_ 6 rfl)) (zaR_ 9) fun s_67 x_68=>at_ [(Sl.fz (tySc K) c),(Sl.fz tyStr signs_1),(Sl.fz tyInt ways_2),(Sl.fz tyInt start_6),(Sl.fz tyStr hero_12),(Sl.fz tyInt reach_23),(Sl.fz (tyL tyPass) s_36),Sl.dead,(Sl.fz (tyL tyPass) s_67),(Sl.fz tyPass x_68),Sl.dead,Sl.dead] (zdG_ (za4_ (LS:=(fun s_77:(List Pas)=>[(Sl.fz (tySc K) c),(Sl.fz tyStr signs_1),(Sl.fz tyInt ways_2),(Sl.fz tyInt start_6),(Sl.fz tyStr hero_12),(Sl.fz tyInt reach_23),(Sl.fz (tyL tyPass) s_36),Sl.dead,(Sl.fz (tyL tyPass) s_77),(Sl.fz tyPass x_68),Sl.dead,Sl.dead])) (s_if (zdz_ (zE_ (zY_ zdY_ (zbk_ (zc_ 9 rfl)) (zcf_ [112,105,99,107]))) (zE_ (zY_ zes_ (zhm_ zea_ (zt_ (zc_ 8 rfl))) (zx_ 100)))) (zdG_ (zbZ_ (i:=8) rfl (zck_ zat_) (zir_ zgX_ (zc_ 6 rfl) (EvO.fr (zgm_ zo_ zcx_ (zt_ (zd6_ (zaj_ (zc_ 9 rfl)) (zY_ zfO_ (zc_ 1 rfl) (zY_ zaw_ (zY_ zb8_ (zY_ zb8_ (ev_me zhT_ (zc_ 1 rfl) (zt_ (zbg_ (zc_ 9 rfl)))) (zx_ 1)) (zY_ zaw_ (zY_ zbq_ (zc_ 2 rfl) (zx_ 12)) (zx_ 36))) (zx_ 37)))))))) fun spoilt_78=>zip_ (i:=8) rfl (at_ [(Sl.fz (tySc K) c),(Sl.fz tyStr signs_1),(Sl.fz tyInt ways_2),(Sl.fz tyInt start_6),(Sl.fz tyStr hero_12),(Sl.fz tyInt reach_23),(Sl.fz (tyL tyPass) s_36),Sl.dead,(Sl.fz (tyL tyPass) spoilt_78),(Sl.fz tyPass x_68),Sl.dead,Sl.dead] (zm_ (S4 (S4 (S4 .nil))))))) (zm_ (S4 (S4 (S4 .nil))))) fun s_77=>(at_ [(Sl.fz (tySc K) c),(Sl.fz tyStr signs_1),(Sl.fz tyInt ways_2),(Sl.fz tyInt start_6),(Sl.fz tyStr hero_12),(Sl.fz tyInt reach_23),(Sl.fz (tyL tyPass) s_36),Sl.dead,(Sl.fz (tyL tyPass) s_77),(Sl.fz tyPass x_68),Sl.dead,Sl.dead] (zm_ (S4 (S4 (.same (.dead (.same (.same .nil)))))))))))) fun s_67=>(at_ [(Sl.fz (tySc K) c),(Sl.fz tyStr signs_1),(Sl.fz tyInt ways_2),(Sl.fz tyInt start_6),(Sl.fz tyStr hero_12),(Sl.fz tyInt reach_23),(Sl.fz (tyL tyPass) s_36),Sl.dead,(Sl.fz (tyL tyPass) s_67),Sl.dead,Sl.dead,Sl.dead] (zbZ_ (i:=10) rfl (zck_ zat_) (zhP_ zfy_ (zt_ (zc_ 6 rfl))) fun handed_101=>(at_ [(Sl.fz (tySc K) c),(Sl.fz tyStr signs_1),(Sl.fz tyInt ways_2),(Sl.fz tyInt start_6),(Sl.fz tyStr hero_12),(Sl.fz tyInt reach_23),(Sl.fz (tyL tyPass) s_36),Sl.dead,(Sl.fz (tyL tyPass) s_67),Sl.dead,(Sl.ow (owL tyPass) handed_101),Sl.dead] (zbZ_ (i:=11) rfl (zbt_ (zdM_ (zcy_ zaa_) (zck_ zz_))) (zbv_ (zt_ (zc1_ 10 rfl))) fun first_104=>(at_ [(Sl.fz (tySc K) c),(Sl.fz tyStr signs_1),(Sl.fz tyInt ways_2),(Sl.fz tyInt start_6),(Sl.fz tyStr hero_12),(Sl.fz tyInt reach_23),(Sl.fz (tyL tyPass) s_36),Sl.dead,(Sl.fz (tyL tyPass) s_67),Sl.dead,(Sl.ow (owL tyPass) handed_101),(Sl.ow (owOpt (owT2 (owD kInt tyStr) (owL tyInt))) first_104)] (za4_ (LS:=(fun _:Unit=>[(Sl.fz (tySc K) c),(Sl.fz tyStr signs_1),(Sl.fz tyInt ways_2),(Sl.fz tyInt start_6),(Sl.fz tyStr hero_12),(Sl.fz tyInt reach_23),(Sl.fz (tyL tyPass) s_36),Sl.dead,(Sl.fz (tyL tyPass) s_67),Sl.dead,(Sl.ow (owL tyPass) handed_101),(Sl.ow (owOpt (owT2 (owD kInt tyStr) (owL tyInt))) first_104)])) (s_if (zfJ_ (zb4_ (zE_ (zK_ (zT_ (zbH_ (O:=(owOpt (owT2 (owD kInt tyStr) (owL tyInt)))) 11 rfl) (zt_ (zc_ 6 rfl)))))) (zE_ (zY_ (ziP_ (eqt_l zdT_)) (zc1_ 10 rfl) (zc_ 6 rfl)))) (zbC_ (zaq_ zaO_) (EvF.ow (ze1_ false))) (zm_ (S4 (S4 (S4 .nil))))) fun _=>(at_ [(Sl.fz (tySc K) c),(Sl.fz tyStr signs_1),(Sl.fz tyInt ways_2),(Sl.fz tyInt start_6),(Sl.fz tyStr hero_12),(Sl.fz tyInt reach_23),(Sl.fz (tyL tyPass) s_36),Sl.dead,(Sl.fz (tyL tyPass) s_67),Sl.dead,(Sl.ow (owL tyPass) handed_101),(Sl.ow (owOpt (owT2 (owD kInt tyStr) (owL tyInt))) first_104)] (za4_ (LS:=(fun _:Unit=>[(Sl.fz (tySc K) c),(Sl.fz tyStr signs_1),(Sl.fz tyInt ways_2),(Sl.fz tyInt start_6),(Sl.fz tyStr hero_12),(Sl.fz tyInt reach_23),(Sl.fz (tyL tyPass) s_36),Sl.dead,(Sl.fz (tyL tyPass) s_67),Sl.dead,(Sl.ow (owL tyPass) handed_101),(Sl.ow (owOpt (owT2 (owD kInt tyStr) (owL tyInt))) first_104)])) (s_if (zfJ_ (zb4_ (zE_ (zK_ (zT_ (EvO.fr (O:=(owOpt (owT2 (owD kInt tyStr) (owL tyInt)))) (zbv_ (zt_ (zc_ 8 rfl)))) (zt_ (zc_ 8 rfl)))))) (zb4_ (zE_ (zK_ (zT_ (zbH_ (O:=(owOpt (owT2 (owD kInt tyStr) (owL tyInt)))) 11 rfl) (zt_ (zc_ 6 rfl))))))) (zbC_ (zaq_ zaO_) (EvF.ow (ze1_ false))) (zm_ (S4 (S4 (S4 .nil))))) fun _=>(at_ [(Sl.fz (tySc K) c),(Sl.fz tyStr signs_1),(Sl.fz tyInt ways_2),(Sl.fz tyInt start_6),(Sl.fz tyStr hero_12),(Sl.fz tyInt reach_23),(Sl.fz (tyL tyPass) s_36),Sl.dead,(Sl.fz (tyL tyPass) s_67),Sl.dead,(Sl.ow (owL tyPass) handed_101),(Sl.ow (owOpt (owT2 (owD kInt tyStr) (owL tyInt))) first_104)] (zfL_ (i:=11) (zbt_ (zdM_ (zcy_ zaa_) (zck_ zz_))) (zd2_ rfl) zf6_ ziK_ fun x_132=>(at_ [(Sl.fz (tySc K) c),(Sl.fz tyStr signs_1),(Sl.fz tyInt ways_2),(Sl.fz tyInt start_6),(Sl.fz tyStr hero_12),(Sl.fz tyInt reach_23),(Sl.fz (tyL tyPass) s_36),Sl.dead,(Sl.fz (tyL tyPass) s_67),Sl.dead,(Sl.ow (owL tyPass) handed_101),(Sl.ow (owOpt (owT2 (owD kInt tyStr) (owL tyInt))) x_132)] (zcs_ (i:=10) rfl zat_ (zew_ (zx_ 36)) fun a_134=>(at_ [(Sl.fz (tySc K) c),(Sl.fz tyStr signs_1),(Sl.fz tyInt ways_2),(Sl.fz tyInt start_6),(Sl.fz tyStr hero_12),(Sl.fz tyInt reach_23),(Sl.fz (tyL tyPass) s_36),Sl.dead,(Sl.fz (tyL tyPass) s_67),Sl.dead,(Sl.ow (owL tyPass) (handed_101++[a_134])),(Sl.ow (owOpt (owT2 (owD kInt tyStr) (owL tyInt))) x_132)] (zbC_ (zaq_ zaO_) (EvF.ow (zK_ (zT_ (EvO.fr (O:=(owOpt (owT2 (owD kInt tyStr) (owL tyInt)))) (zbv_ (zt_ (zc_ 6 rfl)))) (zt_ (zc_ 6 rfl))))))))))))))))))))))))))))))))))))))
theorem zeU_ (hf:∀ ns:List Int,ns.length≤63→BitsOk ns→zim_ ns=.ok true) {K:Fgg}:RD_law K:=by
 rintro vs H Q E ⟨a,ns,rfl,hS,hl,hb,q⟩
 refine zeD_ (K:=K) (N:=Qn0) (C:=(csLast (tySc K))) (O:=owF tyBl) (t:=fun E=>zgP_ K) (ss:=fun c=>[(Sl.fz (tySc K) c)]) (f:=fun c=>ziq_ c) 1 11 zo_ rfl zaf_ (fun c E=>ziH_ c) _ H Q E ⟨H,ns,Same.refl _,⟨_,rfl,a,rfl,hS⟩,?_⟩
 show After K (zim_ ns) E H H _
 rw [hf ns hl hb]
 rintro F' H' x v h _ _ _ ⟨_,rfl⟩
 exact q H'
end K15
namespace K15
open PySem PySem.Spec PyProof.Rows L2
local macro_rules | `(tactic| walk_at "mo") => `(tactic| simp only [Mo.okB, Mo.exB, Mo.noB, Mo.noexO, Mo.optS, zgb_, zfQ_, zgy_, zfP_, ziG_, zfY_, zg7_, zfl_, zf1_, grd_T, Bool.not_true, Bool.not_false, if_true, if_false, Bool.false_eq_true, Option.map_some, Option.map_none, ite_true, ite_false, Int.reduceLT, Int.reduceLE, Int.reduceNeg, Int.reduceSub, Int.reduceAdd, Int.reduceMul, Nat.reduceAdd, Nat.reduceLT, decide_true, decide_false, Option.isSome_none, Option.isSome_some, Option.isNone_none, Option.isNone_some, Bool.and_true, Bool.and_false])
theorem lim40 {α:Type}{c:Crd}(h:isC c) (k:Mo α):Mo.lim c.length k=k:=Mo.lim_ok (by rw [h.1]; lia)
theorem zhe_ (k:Int):∃ x,atI SG (k % 37)=some x∧x∈SG:=zbr_ (xs:=SG) (Int.emod_nonneg _ (by decide)) (Int.emod_lt_of_pos _ (by decide))
theorem limSG {α:Type}(k:Mo α):Mo.lim SG.length k=k:=Mo.lim_ok (by decide)
noncomputable def psOk (p:Pas):Prop:=(1≤p.1∧p.1≤36)∧∀ s,p.2=some s→∃ x,s=[x]∧x∈SG
theorem psOk.col {p:Pas}(h:psOk p):colOk p.1:=⟨h.1.1,by have:=h.1.2; lia⟩
noncomputable def doP (d:List Crd) (p:Pas):List Crd:=match p.2 with | none=>sK (kv [p.1]) d | some s=>d.filter fun x=>decide ([sg x p.1]=s)
theorem zgW_ {d:List Crd}{p:Pas}{x:Crd}(h:x∈doP d p):x∈d:=by
 obtain ⟨c,o⟩:=p
 cases o with
 | none=>exact (zgN_ d).mp h
 | some s=>exact (List.mem_filter.mp h).1
theorem zgH_ (d:List Crd) (p:Pas):(doP d p).length≤d.length:=by
 obtain ⟨c,o⟩:=p
 cases o with
 | none=>show (sK _ d).length≤_; rw [zjh_]; exact Nat.le_refl _
 | some s=>exact List.length_filter_le _ _
theorem ziz_ {row:List Pas}:∀ {d:List Crd}{x:Crd},x∈row.foldl doP d→x∈d:=by
 induction row with
 | nil=>exact fun h=>h
 | cons p row ih=>exact fun h=>zgW_ (ih h)
theorem zjl_ (row:List Pas):∀ (d:List Crd),(row.foldl doP d).length≤d.length:=by
 induction row with
 | nil=>exact fun d=>Nat.le_refl _
 | cons p row ih=>exact fun d=>Nat.le_trans (ih _) (zgH_ d p)
noncomputable def heroOk (h:List Nat):Prop:=h.length=37∧∀ x∈h,x∈SG
theorem zhK_ (cell:Int) {hero:List Nat}(hh:heroOk hero) (start:Int) {reach:Int}(hr:0<reach) (share:Int):∃ p,zaV_ cell hero start reach share=.ok p∧psOk p:=by
 unfold zaV_ zaN_
 walk_at "mo"
 rw [Mo.grd_ok (zb9_ (.inl ⟨by lia,by lia⟩))]
 walk_at "mo"
 rw [zfl_ hr]
 walk_at "mo"
 generalize (cell % 2147483647+69621)*(cell % 2147483647+69621) % 2147483629=n
 have hc:1≤1+(start+n / 8 % reach) % 36∧1+(start+n / 8 % reach) % 36≤36:=by lia
 generalize 1+(start+n / 8 % reach) % 36=col at hc
 by_cases h1:share≤n % 8
 ·rw [decide_eq_true h1]
  walk_at "mo"
  exact ⟨_,rfl,hc,fun s z=>by cases z⟩
 ·rw [decide_eq_false h1]
  walk_at "mo"
  by_cases h2:n / 512 % 7=1
  ·rw [decide_eq_true h2]
   walk_at "mo"
   obtain ⟨y,ey,hy⟩:=zhe_ (n / 4096)
   rw [limSG,ey]
   walk_at "mo"
   exact ⟨_,rfl,hc,fun s z=>by cases z; exact ⟨y,rfl,hy⟩⟩
  ·rw [decide_eq_false h2]
   walk_at "mo"
   obtain ⟨y,ey,hy⟩:=zbr_ (xs:=hero) (k:=col-1) (by lia) (by rw [hh.1]; lia)
   rw [Mo.lim_ok (by rw [hh.1]; lia),ey]
   walk_at "mo"
   exact ⟨_,rfl,hc,fun s z=>by cases z; exact ⟨y,rfl,hh.2 y hy⟩⟩
theorem zde_ {α S B ρ:Type}{step:S→α→Mo (Out ρ S S)}{xs:List α}{s:S}{G:Mo (Out ρ B S)→Prop}(P:List α→S→Prop) (h0:P [] s)
  (hs:∀ d x s,(∃ r,xs=d++x::r)→P d s→(∃ s',step s x=.ok (.nx s')∧P (d++[x]) s')∨∃ a,step s x=.ok (.rt a)∧G (.ok (.rt a))) (hk:∀ s',P xs s'→G (.ok (.nx s'))):G (forO step xs s):=by
 have all:∀ (r d:List α) (s:S),xs=d++r→P d s→G (forO step r s):=by
  intro r
  induction r with
  | nil=>intro d s e p; rw [List.append_nil] at e; subst e; exact hk s p
  | cons x r ih =>
   intro d s e p
   rcases hs d x s ⟨r,e⟩ p with ⟨s',e1,p'⟩ | ⟨a,e1,g⟩
   ·show G ((step s x).bind _)
    rw [e1]
    exact ih (d++[x]) s' (by rw [e]; simp) p'
   ·show G ((step s x).bind _)
    rw [e1]
    exact g
 exact all xs [] s rfl h0
theorem zfd_ {k:Crd→Nat}(p:Crd→Bool) (xs:List Crd):(sK k xs).filter p=sK k (xs.filter p):=by
 refine zU_ (P:=fun xs=>(sK k xs).filter p=sK k (xs.filter p)) rfl (fun xs x ih=>?_) xs
 have hs:=zgS_ k xs
 rw [za5_,List.filter_append]
 by_cases hx:p x=true
 ·rw [show [x].filter p=[x] by simp [hx],za5_,← ih]
  unfold insK
  rw [List.filter_append,List.filter_cons,if_pos hx]
  simp only [List.filter_filter,Bool.and_comm]
 ·rw [show [x].filter p=[] by simp [hx],List.append_nil,← ih]
  unfold insK
  rw [List.filter_append,List.filter_cons,if_neg hx]
  have:=zc7_ (k:=k) (List.Pairwise.filter p hs) (k x)
  conv=>rhs; rw [this]
  simp only [List.filter_filter,Bool.and_comm]
noncomputable def pcols (row:List Pas):List Int:=row.filterMap fun p=>match p.2 with | none=>some p.1 | some _=>none
noncomputable def pfit (row:List Pas) (x:Crd):Bool:=row.all fun p=>match p.2 with | none=>true | some s=>decide ([sg x p.1]=s)
theorem zab_ (row:List Pas) (p:Pas) (x:Crd):pfit (row++[p]) x=(pfit row x && match p.2 with | none=>true | some s=>decide ([sg x p.1]=s)):=by
 unfold pfit; rw [List.all_append]; simp
theorem fold_eq (d:List Crd) (row:List Pas):row.foldl doP d=sK (kv (pcols row).reverse) (d.filter (pfit row)):=by
 refine zU_ (P:=fun row=>row.foldl doP d=sK (kv (pcols row).reverse) (d.filter (pfit row))) ?_ (fun row p ih=>?_) row
 ·show d=sK (kv []) (d.filter fun _=>true)
  rw [zhD_,zfB_]; exact (List.filter_eq_self.mpr fun _ _=>rfl).symm
 ·rw [List.foldl_append,ih]
  obtain ⟨c,o⟩:=p
  cases o with
  | none =>
   have e1:pcols (row++[(c,none)])=pcols row++[c]:=by unfold pcols; rw [List.filterMap_append]; rfl
   have e2:pfit (row++[(c,none)])=pfit row:=by funext x; rw [zab_]; simp
   rw [e1,e2,List.reverse_append]
   show sK (kv [c]) _=sK (kv (c::(pcols row).reverse)) _
   exact (zeI_ [c] _).symm.trans (zdj_ _ c _)
  | some s =>
   have e1:pcols (row++[(c,some s)])=pcols row:=by unfold pcols; rw [List.filterMap_append]; simp
   have e2:d.filter (pfit (row++[(c,some s)]))=(d.filter (pfit row)).filter fun x=>decide ([sg x c]=s):=by
    rw [List.filter_filter]
    refine List.filter_congr fun x _=>?_
    rw [zab_,Bool.and_comm]
   rw [e1,e2]
   exact zfd_ (fun x=>decide ([sg x c]=s)) _
theorem zaY_ {m:List (Int×List Nat)}{c:Int}{s:List Nat}(h:getA m c=some s):(c,s)∈m:=by
 unfold getA at h
 cases g:m.find? (fun q=>decide (q.1=c)) with
 | none=>rw [g] at h; cases h
 | some q =>
  rw [g] at h
  have h1:=List.mem_of_find?_eq_some g
  have h2:=List.find?_some g
  simp at h2
  have h3:q.2=s:=Option.some.inj h
  rw [← h2,← h3]; exact h1
theorem zcW_ {m:List (Int×List Nat)}{c:Int}(s:List Nat) (h:getA m c=none):putA m c s=m++[(c,s)]:=by
 unfold putA
 rw [if_neg]
 intro z
 rw [List.any_eq_true] at z
 obtain ⟨q,hq,hc⟩:=z
 unfold getA at h
 cases g:m.find? (fun q=>decide (q.1=c)) with
 | none=>exact absurd hc (by simpa using List.find?_eq_none.mp g q hq)
 | some q=>rw [g] at h; cases h
noncomputable def Cf (row:List Pas):Prop:=∃ c s s',s≠s'∧((c,some s):Pas)∈row∧((c,some s'):Pas)∈row
theorem Cf.fit {row:List Pas}(h:Cf row) (x:Crd):pfit row x=false:=by
 obtain ⟨c,s,s',hs,h1,h2⟩:=h
 cases hf:pfit row x with
 | false=>rfl
 | true =>
  unfold pfit at hf
  rw [List.all_eq_true] at hf
  have g1:=hf _ h1
  have g2:=hf _ h2
  simp at g1 g2
  exact absurd (g1.symm.trans g2) hs
structure PkOk (row:List Pas) (m:List (Int×List Nat)):Prop where
 fit:∀ x,(m.all fun q=>decide ([sg x q.1]=q.2))=pfit row x
 mem:∀ c s,getA m c=some s→(c,some s)∈row
 all:∀ c s,((c,some s):Pas)∈row→getA m c=some s
 len:m.length≤row.length
 col:∀ q∈m,1≤q.1∧q.1≤36
 val:∀ q∈m,∃ x,q.2=[x]∧x∈SG
 nd:(m.map (·.1)).Nodup
theorem zeG_ {row:List Pas}(hr:∀ p∈row,psOk p) (hl:row.length≤1000):(zS_ row=.ok none∧Cf row)∨∃ m,zS_ row=.ok (some m)∧PkOk row m:=by
 unfold zS_ z6_
 walk_at "mo"
 refine zde_ (G:=fun z=>(fnO (thenO z _)=.ok none∧Cf row)∨∃ m,fnO (thenO z _)=.ok (some m)∧PkOk row m) (fun dn m=>PkOk dn m) ⟨fun x=>rfl,fun c s z=>(by cases z),fun c s z=>(by cases z),Nat.le_refl _,fun q z=>(by cases z),fun q z=>(by cases z),by simp⟩ ?_ ?_
 ·rintro dn p m ⟨r,hrr⟩ w
  have hp:psOk p:=hr p (by rw [hrr]; simp)
  have hdl:dn.length≤1000:=by have:=congrArg List.length hrr; rw [List.length_append] at this; lia
  have hml:=w.len
  obtain ⟨c,o⟩:=p
  cases o with
  | none =>
   have e:decide (pTag (c,none)=[112,105,99,107])=false:=by show decide (([100,101,97,108]:List Nat)=[112,105,99,107])=false; decide
   simp only [e]
   walk_at "mo"
   refine .inl ⟨_,rfl,⟨fun x=>by rw [w.fit,zab_]; simp,fun c s z=>List.mem_append_left _ (w.mem c s z),fun c' s' z=>?_,by simp; lia,w.col,w.val,w.nd⟩⟩
   rcases List.mem_append.mp z with z | z
   ·exact w.all c' s' z
   ·simp at z
  | some s =>
   have e:decide (pTag (c,some s)=[112,105,99,107])=true:=rfl
   simp only [e]
   walk_at "mo"
   rw [Mo.lim_ok (by lia)]
   unfold sdA
   cases g:getA m c with
   | some s0 =>
    by_cases hs:s0=s
    ·subst hs
     simp only [decide_true,Bool.not_true]
     walk_at "mo"
     refine .inl ⟨_,rfl,⟨fun x=>?_,fun c s z=>List.mem_append_left _ (w.mem c s z),fun c' s' z=>?_,by simp; lia,w.col,w.val,w.nd⟩⟩
     ·rw [zab_,w.fit]
      cases hf:pfit dn x with
      | false=>rfl
      | true =>
       rw [← w.fit,List.all_eq_true] at hf
       have:=hf _ (zaY_ g)
       simpa using this
     ·rcases List.mem_append.mp z with z | z
      ·exact w.all c' s' z
      ·have z:=List.mem_singleton.mp z
       cases z; exact g
    ·simp only [decide_eq_false hs,Bool.not_false]
     walk_at "mo"
     exact .inr ⟨_,rfl,.inl ⟨rfl,c,s0,s,hs,by rw [hrr]; exact List.mem_append_left _ (w.mem c s0 g),by rw [hrr]; simp⟩⟩
   | none =>
    simp only [decide_true,Bool.not_true]
    walk_at "mo"
    have hput:=zcW_ s g
    rw [hput]
    refine .inl ⟨_,rfl,⟨fun x=>?_,fun c' s' z=>?_,fun c' s' z=>?_,by simp; exact w.len,fun q hq=>?_,fun q hq=>?_,?_⟩⟩
    ·rw [List.all_append,w.fit,zab_]; simp
    ·rw [← hput,zbJ_] at z
     split at z
     ·rename_i h; subst h; cases z; simp
     ·exact List.mem_append_left _ (w.mem c' s' z)
    ·rw [← hput,zbJ_]
     rcases List.mem_append.mp z with z | z
     ·have h1:=w.all c' s' z
      rw [if_neg (fun e=>by rw [← e,g] at h1; cases h1)]; exact h1
     ·have z:=List.mem_singleton.mp z
      cases z; rw [if_pos rfl]
    ·rcases List.mem_append.mp hq with h | h
     ·exact w.col q h
     ·rw [List.mem_singleton.mp h]; exact hp.1
    ·rcases List.mem_append.mp hq with h | h
     ·exact w.val q h
     ·rw [List.mem_singleton.mp h]; exact hp.2 s rfl
    ·rw [List.map_append,List.nodup_append]
     refine ⟨w.nd,by simp,fun a ha b hb z=>?_⟩
     have hb:b=c:=by simpa using hb
     obtain ⟨q,hq,hqa⟩:=List.mem_map.mp ha
     have:=w.mem
     unfold getA at g
     cases g2:m.find? (fun q=>decide (q.1=c)) with
     | some q=>rw [g2] at g; cases g
     | none=>exact absurd (hqa.trans (z.trans hb)) (by simpa using List.find?_eq_none.mp g2 q hq)
 ·intro m w
  exact .inr ⟨m,rfl,w⟩
noncomputable def skey (row:List Pas) (m:List (Int×List Nat)):List Int:=onceL ((pcols row).reverse.filter fun c=>!(getA m c).isSome)
theorem zac_ (L:List Int) (c:Int):onceL (L++[c])=if c∈onceL L then onceL L else onceL L++[c]:=by unfold onceL; rw [List.foldl_append]; rfl
theorem zdL_ (L:List Int):(onceL L).length≤L.length:=by
 refine zU_ (P:=fun L=>(onceL L).length≤L.length) (Nat.le_refl _) (fun L c ih=>?_) L
 rw [zac_]; split<;>simp<;>lia
theorem zf7_ {L:List Int}{c:Int}:c∈onceL L→c∈L:=by
 refine zU_ (P:=fun L=>c∈onceL L→c∈L) (fun h=>h) (fun L x ih h=>?_) L
 rw [zac_] at h
 split at h
 ·exact List.mem_append_left _ (ih h)
 ·rcases List.mem_append.mp h with h | h
  ·exact List.mem_append_left _ (ih h)
  ·exact List.mem_append_right _ h
theorem zfR_ {row:List Pas}(hr:∀ p∈row,psOk p) (hl:row.length≤1000):(z3_ row=.ok none∧Cf row)∨∃ m,z3_ row=.ok (some (m,skey row m))∧PkOk row m:=by
 unfold z3_ zaQ_
 walk_at "mo"
 rcases zeG_ hr hl with ⟨e,h⟩ | ⟨m,e,w⟩
 ·rw [e]
  walk_at "mo"
  first | exact .inl ⟨rfl,h⟩ | exact .inl ⟨trivial,h⟩
 ·rw [e]
  walk_at "mo"
  refine .inr ⟨m,?_,w⟩
  refine zau_ (G:=fun z=>fnO (thenO z _)=.ok (some (m,skey row m))) (fun dn s=>s=onceL ((pcols dn).filter fun c=>!(getA m c).isSome)) rfl ?_ ?_
  ·rintro dn p s ⟨r,hrr⟩ rfl
   have hdl:dn.length≤1000:=by have:=congrArg List.length hrr; rw [List.length_append,List.length_reverse] at this; lia
   obtain ⟨c,o⟩:=p
   cases o with
   | some s =>
    have e:decide (pTag (c,some s)=[100,101,97,108])=false:=by show decide (([112,105,99,107]:List Nat)=[100,101,97,108])=false; decide
    have e1:pcols (dn++[(c,some s)])=pcols dn:=by unfold pcols; rw [List.filterMap_append]; simp
    simp only [e]
    walk_at "mo"
    exact ⟨_,rfl,by rw [e1]⟩
   | none =>
    have e:decide (pTag (c,none)=[100,101,97,108])=true:=rfl
    have e1:pcols (dn++[(c,none)])=pcols dn++[c]:=by unfold pcols; rw [List.filterMap_append]; rfl
    have hpl:(pcols dn).length≤dn.length:=List.length_filterMap_le _ _
    have hol:=Nat.le_trans (zdL_ ((pcols dn).filter fun c=>!(getA m c).isSome)) (List.length_filter_le _ _)
    simp only [e]
    walk_at "mo"
    rw [e1,List.filter_append]
    cases g:getA m c with
    | some s =>
     walk_at "mo"
     exact ⟨_,rfl,by simp [g]⟩
    | none =>
     have e2:[c].filter (fun c=>!(getA m c).isSome)=[c]:=by simp [g]
     rw [e2,zac_]
     walk_at "mo"
     by_cases hc:c∈onceL ((pcols dn).filter fun c=>!(getA m c).isSome)
     ·rw [show (onceL ((pcols dn).filter fun c=>!(getA m c).isSome)).any (fun y=>decide (y=c))=true by rw [List.any_eq_true]; exact ⟨c,hc,by simp⟩,if_pos hc]
      walk_at "mo"
      exact ⟨_,rfl,rfl⟩
     ·rw [show (onceL ((pcols dn).filter fun c=>!(getA m c).isSome)).any (fun y=>decide (y=c))=false by rw [List.any_eq_false]; intro y hy z; simp at z; exact hc (z ▸ hy),if_neg hc]
      walk_at "mo"
      rw [Mo.lim_ok (by lia)]
      walk_at "mo"
      exact ⟨_,rfl,rfl⟩
  ·rintro s rfl
   walk_at "mo"
   unfold skey
   rw [show pcols row.reverse=(pcols row).reverse by unfold pcols; rw [List.filterMap_reverse]]
theorem ahd_or (L:List Int) (a b:Crd):(∀ c∈L,rnk a c=rnk b c)∨ahd L a b=true∨ahd L b a=true:=by
 induction L with
 | nil=>exact .inl fun c h=>by cases h
 | cons c L ih =>
  unfold ahd
  by_cases h:rnk a c=rnk b c
  ·rw [if_pos h,if_pos h.symm]
   rcases ih with ih | ih
   ·exact .inl fun x hx=>by
     rcases List.mem_cons.mp hx with rfl | hx
     ·exact h
     ·exact ih x hx
   ·exact .inr ih
  ·rw [if_neg h,if_neg (fun z=>h z.symm)]
   right
   rcases Nat.lt_or_gt_of_ne h with z | z
   ·exact .inl (decide_eq_true z)
   ·exact .inr (decide_eq_true z)
theorem zgV_ (q:Int→Bool) (L:List Int) (a b:Crd) (h:∀ c,q c=false→rnk a c=rnk b c):ahd (L.filter q) a b=ahd L a b:=by
 induction L with
 | nil=>rfl
 | cons c L ih =>
  rw [List.filter_cons]
  cases g:q c with
  | true=>rw [if_pos rfl]; unfold ahd; rw [ih]
  | false=>rw [if_neg (by decide),ih]; conv=>rhs; unfold ahd; rw [if_pos (h c g)]
theorem zci_:∀ (l l':List Int),l.Nodup→(∀ x∈l,x∈l')→l'.length≤l.length→∀ x∈l',x∈l
 | [],l',_,_,hl,x,hx=>by
  cases l' with
  | nil=>cases hx
  | cons a t=>simp at hl
 | a::t,l',hn,hs,hl,x,hx=>by
  obtain ⟨h1,h2⟩:=List.nodup_cons.mp hn
  by_cases e:x=a
  ·rw [e]; exact List.mem_cons_self
  ·refine List.mem_cons_of_mem _ (zci_ t (l'.erase a) h2 (fun y hy=>?_) ?_ x ((List.mem_erase_of_ne e).mpr hx))
   ·exact (List.mem_erase_of_ne (show y≠a from fun z=>h1 (by rw [← z]; exact hy))).mpr (hs y (List.mem_cons_of_mem _ hy))
   ·rw [List.length_erase_of_mem (hs a List.mem_cons_self)]; simp at hl; lia
theorem zbQ_:∀ (l l':List Int),l.Nodup→(∀ x∈l,x∈l')→l.length≤l'.length
 | [],_,_,_=>Nat.zero_le _
 | a::t,l',hn,hs=>by
  obtain ⟨h1,h2⟩:=List.nodup_cons.mp hn
  have h3:=zbQ_ t (l'.erase a) h2 fun y hy=>(List.mem_erase_of_ne (show y≠a from fun z=>h1 (by rw [← z]; exact hy))).mpr (hs y (List.mem_cons_of_mem _ hy))
  rw [List.length_erase_of_mem (hs a List.mem_cons_self)] at h3
  have h4:0<l'.length:=List.length_pos_of_mem (hs a List.mem_cons_self)
  simp; lia
theorem zfE_ {m:List (Int×List Nat)}(hn:(m.map (·.1)).Nodup) {q:Int×List Nat}(hq:q∈m):getA m q.1=some q.2:=by
 unfold getA
 induction m with
 | nil=>cases hq
 | cons x ks ih =>
  rw [List.find?_cons]
  rcases List.mem_cons.mp hq with rfl | hq
  ·simp
  ·have hne:x.1≠q.1:=fun z=>(List.nodup_cons.mp hn).1 (by show x.1∈_; rw [z]; exact List.mem_map.mpr ⟨q,hq,rfl⟩)
   rw [decide_eq_false hne]
   exact ih (List.nodup_cons.mp hn).2 hq
noncomputable def SP (row other:List Pas):Prop:=∀ c s,((c,some s):Pas)∈row↔((c,some s):Pas)∈other
theorem PkOk.key {row:List Pas}{m:List (Int×List Nat)}(w:PkOk row m) {c:Int}{s:List Nat}(h:((c,some s):Pas)∈row):c∈m.map (·.1):=List.mem_map.mpr ⟨_,zaY_ (w.all c s h),rfl⟩
theorem PkOk.of {row:List Pas}{m:List (Int×List Nat)}(w:PkOk row m) {q:Int×List Nat}(h:q∈m):((q.1,some q.2):Pas)∈row:=w.mem _ _ (zfE_ w.nd h)
theorem PkOk.nc {row:List Pas}{m:List (Int×List Nat)}(w:PkOk row m):¬ Cf row:=by
 rintro ⟨c,s,s',hs,h1,h2⟩
 have:=(w.all c s h1).symm.trans (w.all c s' h2)
 exact hs (Option.some.inj this)
theorem zfV_ {row other:List Pas}{m m':List (Int×List Nat)}(w:PkOk row m) (w':PkOk other m'):eqDm m m'=true↔SP row other:=by
 unfold eqDm
 rw [Bool.and_eq_true,List.all_eq_true,beq_iff_eq]
 constructor
 ·rintro ⟨hl,ha⟩ c s
  have fw:∀ q∈m,getA m' q.1=some q.2:=fun q hq=>by simpa using ha q hq
  constructor
  ·intro h
   exact w'.mem c s (fw _ (zaY_ (w.all c s h)))
  ·intro h
   have hk:=zci_ (m.map (·.1)) (m'.map (·.1)) w.nd (fun x hx=>by
    obtain ⟨q,hq,rfl⟩:=List.mem_map.mp hx
    exact List.mem_map.mpr ⟨_,zaY_ (fw q hq),rfl⟩) (by simp; lia) c (w'.key h)
   obtain ⟨q,hq,rfl⟩:=List.mem_map.mp hk
   have h1:=(fw q hq).symm.trans (w'.all q.1 s h)
   rw [← Option.some.inj h1]
   exact w.of hq
 ·intro h
  refine ⟨Nat.le_antisymm ?_ ?_,fun q hq=>decide_eq_true (w'.all _ _ ((h _ _).mp (w.of hq)))⟩
  ·have:=zbQ_ (m.map (·.1)) (m'.map (·.1)) w.nd fun x hx=>by
    obtain ⟨q,hq,rfl⟩:=List.mem_map.mp hx
    exact w'.key ((h _ _).mp (w.of hq))
   simpa using this
  ·have:=zbQ_ (m'.map (·.1)) (m.map (·.1)) w'.nd fun x hx=>by
    obtain ⟨q,hq,rfl⟩:=List.mem_map.mp hx
    exact w.key ((h _ _).mpr (w'.of hq))
   simpa using this
theorem zdV_ (L:List Int):(onceL L).Nodup:=by
 refine zU_ (P:=fun L=>(onceL L).Nodup) (by show ([]:List Int).Nodup; simp) (fun L c ih=>?_) L
 rw [zac_]
 split
 ·exact ih
 ·rename_i h
  rw [List.nodup_append]
  exact ⟨ih,by simp,fun a ha b hb z=>h (by rw [← List.mem_singleton.mp hb,← z]; exact ha)⟩
theorem zfz_ {row:List Pas}{m:List (Int×List Nat)}(hr:∀ p∈row,psOk p):(skey row m).Nodup∧(skey row m).length≤row.length∧∀ c∈skey row m,(1≤c∧c≤36)∧getA m c=none:=by
 refine ⟨zdV_ _,Nat.le_trans (zdL_ _) (Nat.le_trans (List.length_filter_le _ _) (by rw [List.length_reverse]; exact List.length_filterMap_le _ _)),fun c hc=>?_⟩
 obtain ⟨h1,h2⟩:=List.mem_filter.mp (zf7_ hc)
 rw [List.mem_reverse] at h1
 unfold pcols at h1
 obtain ⟨p,hp,hq⟩:=List.mem_filterMap.mp h1
 have h3:=(hr p hp).1
 obtain ⟨c',o⟩:=p
 cases o with
 | some s=>cases hq
 | none =>
  have hq:c'=c:=Option.some.inj hq
  subst hq
  refine ⟨h3,?_⟩
  show getA m c'=none
  cases g:getA m c' with
  | none=>rfl
  | some v=>rw [g] at h2; cases h2
theorem PkOk.deal {dn:List Pas}{m:List (Int×List Nat)}(w:PkOk dn m) (c:Int):PkOk (dn++[(c,none)]) m:=by
 have:=w.len
 refine ⟨fun x=>by rw [w.fit,zab_]; simp,fun c s z=>List.mem_append_left _ (w.mem c s z),fun c' s' z=>?_,by simp; lia,w.col,w.val,w.nd⟩
 rcases List.mem_append.mp z with z | z
 ·exact w.all c' s' z
 ·simp at z
theorem PkOk.same {dn:List Pas}{m:List (Int×List Nat)}(w:PkOk dn m) {c:Int}{s:List Nat}(g:getA m c=some s):PkOk (dn++[(c,some s)]) m:=by
 have:=w.len
 refine ⟨fun x=>?_,fun c s z=>List.mem_append_left _ (w.mem c s z),fun c' s' z=>?_,by simp; lia,w.col,w.val,w.nd⟩
 ·rw [zab_,w.fit]
  cases hf:pfit dn x with
  | false=>rfl
  | true =>
   rw [← w.fit,List.all_eq_true] at hf
   have:=hf _ (zaY_ g)
   simpa using this
 ·rcases List.mem_append.mp z with z | z
  ·exact w.all c' s' z
  ·have z:=List.mem_singleton.mp z
   cases z; exact g
theorem PkOk.more {dn:List Pas}{m:List (Int×List Nat)}(w:PkOk dn m) {c:Int}{s:List Nat}(hp:psOk (c,some s)) (g:getA m c=none):PkOk (dn++[(c,some s)]) (m++[(c,s)]):=by
 have hput:=zcW_ s g
 refine ⟨fun x=>?_,fun c' s' z=>?_,fun c' s' z=>?_,by simp; exact w.len,fun q hq=>?_,fun q hq=>?_,?_⟩
 ·rw [List.all_append,w.fit,zab_]; simp
 ·rw [← hput,zbJ_] at z
  split at z
  ·rename_i h; subst h; cases z; simp
  ·exact List.mem_append_left _ (w.mem c' s' z)
 ·rw [← hput,zbJ_]
  rcases List.mem_append.mp z with z | z
  ·have h1:=w.all c' s' z
   rw [if_neg (fun e=>by rw [← e,g] at h1; cases h1)]; exact h1
  ·have z:=List.mem_singleton.mp z
   cases z; rw [if_pos rfl]
 ·rcases List.mem_append.mp hq with h | h
  ·exact w.col q h
  ·rw [List.mem_singleton.mp h]; exact hp.1
 ·rcases List.mem_append.mp hq with h | h
  ·exact w.val q h
  ·rw [List.mem_singleton.mp h]; exact hp.2 s rfl
 ·rw [List.map_append,List.nodup_append]
  refine ⟨w.nd,by simp,fun a ha b hb z=>?_⟩
  have hb:b=c:=by simpa using hb
  obtain ⟨q,hq,hqa⟩:=List.mem_map.mp ha
  unfold getA at g
  cases g2:m.find? (fun q=>decide (q.1=c)) with
  | some q=>rw [g2] at g; cases g
  | none=>exact absurd (hqa.trans (z.trans hb)) (by simpa using List.find?_eq_none.mp g2 q hq)
theorem PkOk.rev {row:List Pas}{m:List (Int×List Nat)}(w:PkOk row.reverse m):PkOk row m :=
 ⟨fun x=>by rw [w.fit]; unfold pfit; rw [List.all_reverse],fun c s h=>List.mem_reverse.mp (w.mem c s h),fun c s h=>w.all c s (List.mem_reverse.mpr h),by have:=w.len; rwa [List.length_reverse] at this,w.col,w.val,w.nd⟩
theorem zhh_ {m:List (Int×List Nat)}(hn:(m.map (·.1)).Nodup) {c:Int}{s:List Nat}(g:getA m c=some s):putA m c s=m:=by
 unfold putA
 rw [if_pos (by rw [List.any_eq_true]; exact ⟨_,zaY_ g,by simp⟩)]
 rw [show m.map (fun q=>if q.1=c then (q.1,s) else q)=m.map id from List.map_congr_left fun q hq=>?_,List.map_id]
 by_cases h:q.1=c
 ·rw [if_pos h]
  have:=zfE_ hn hq
  rw [h,g] at this
  rw [Option.some.inj this]; rfl
 ·rw [if_neg h]; rfl
theorem zgA_ (q:Int→Bool) (L:List Int):(onceL L).filter q=onceL (L.filter q):=by
 refine zU_ (P:=fun L=>(onceL L).filter q=onceL (L.filter q)) rfl (fun L c ih=>?_) L
 rw [zac_,List.filter_append]
 cases g:q c with
 | false =>
  rw [show [c].filter q=[] by simp [g],List.append_nil,← ih]
  split
  ·rfl
  ·rw [List.filter_append,show [c].filter q=[] by simp [g],List.append_nil]
 | true =>
  rw [show [c].filter q=[c] by simp [g],zac_,← ih]
  by_cases h:c∈onceL L
  ·rw [if_pos h,if_pos (List.mem_filter.mpr ⟨h,g⟩)]
  ·rw [if_neg h,if_neg (fun z=>h (List.mem_filter.mp z).1),List.filter_append,show [c].filter q=[c] by simp [g]]
theorem zfe_ {row:List Pas}{m m':List (Int×List Nat)}(w:PkOk row m) (w':PkOk row m'):skey row m=skey row m':=by
 have:(fun c=>!(getA m c).isSome)=fun c=>!(getA m' c).isSome:=funext fun c=>by
  cases g:getA m c with
  | some s=>rw [w'.all c s (w.mem c s g)]
  | none =>
   cases g':getA m' c with
   | none=>rfl
   | some s=>rw [w.all c s (w'.mem c s g')] at g; cases g
 unfold skey
 rw [this]
theorem zgQ_ {n:Nat}{dn r:List Int}{x:Int}(h:rngI 0 n=dn++x::r):x=(dn.length:Int)∧dn.length<n:=by
 have h1:(rngI 0 n)[dn.length]?=some x:=by rw [h]; simp
 have h2:dn.length<n:=by have:=congrArg List.length h; rw [zeB_,List.length_append] at this; simp at this; lia
 unfold rngI at h1
 rw [List.getElem?_map,List.getElem?_range h2] at h1
 have:(0:Int)+(dn.length:Int)=x:=Option.some.inj h1
 exact ⟨by lia,h2⟩
theorem zem_ {row:List Pas}(hr:∀ p∈row,psOk p) (hl:row.length≤1000):(zak_ row=.ok none∧Cf row)∨∃ m,zak_ row=.ok (some m)∧PkOk row m:=by
 unfold zak_ zaF_
 walk_at "mo"
 refine zde_ (G:=fun z=>(fnO (thenO z _)=.ok none∧Cf row)∨∃ m,fnO (thenO z _)=.ok (some m)∧PkOk row m) (fun dn m=>PkOk dn m) ⟨fun x=>rfl,fun c s z=>(by cases z),fun c s z=>(by cases z),Nat.le_refl _,fun q z=>(by cases z),fun q z=>(by cases z),by simp⟩ ?_ ?_
 ·rintro dn p m ⟨r,hrr⟩ w
  have hp:psOk p:=hr p (by rw [hrr]; simp)
  have hdl:dn.length≤1000:=by have:=congrArg List.length hrr; rw [List.length_append] at this; lia
  have hml:=w.len
  obtain ⟨c,o⟩:=p
  cases o with
  | none =>
   have e:decide (pTag (c,none)=[112,105,99,107])=false:=by show decide (([100,101,97,108]:List Nat)=[112,105,99,107])=false; decide
   simp only [e]
   walk_at "mo"
   exact .inl ⟨_,rfl,w.deal c⟩
  | some s =>
   have e:decide (pTag (c,some s)=[112,105,99,107])=true:=rfl
   simp only [e]
   walk_at "mo"
   cases g:getA m c with
   | some s0 =>
    walk_at "mo"
    by_cases hs:s0=s
    ·subst hs
     walk_at "mo"
     rw [Mo.lim_ok (by lia),zhh_ w.nd g]
     walk_at "mo"
     exact .inl ⟨_,rfl,w.same g⟩
    ·rw [decide_eq_false hs]
     walk_at "mo"
     exact .inr ⟨_,rfl,.inl ⟨rfl,c,s0,s,hs,by rw [hrr]; exact List.mem_append_left _ (w.mem c s0 g),by rw [hrr]; simp⟩⟩
   | none =>
    walk_at "mo"
    rw [Mo.lim_ok (by lia),zcW_ s g]
    walk_at "mo"
    exact .inl ⟨_,rfl,w.more hp g⟩
 ·intro m w
  exact .inr ⟨m,rfl,w⟩
noncomputable def lastR:List Pas→Int→Int
 | [],_ => -1
 | p::r,c=>if p=(c,none) then (r.length:Int) else lastR r c
theorem zf4_ {R1 R2:List Pas}{c:Int}(h:((c,none):Pas)∉R1):lastR (R1++(c,none)::R2) c=R2.length:=by
 induction R1 with
 | nil=>exact if_pos rfl
 | cons p R1 ih =>
  have:p≠(c,none):=fun e=>h (by rw [e]; exact List.mem_cons_self)
  show (if p=(c,none) then _ else lastR (R1++_) c)=_
  rw [if_neg this]; exact ih fun z=>h (List.mem_cons_of_mem _ z)
theorem zgM_ (row:List Pas) (c:Int) (hl:row.length≤1000):zW_ row c=.ok (lastR row.reverse c):=by
 unfold zW_ zX_
 walk_at "mo"
 rw [Mo.grd_ok (by lia),Int.toNat_natCast]
 walk_at "mo"
 refine zau_ (G:=fun z=>fnO (thenO z _)=.ok (lastR row.reverse c)) (fun dn (s:Int)=>s=lastR (row.take dn.length).reverse c) rfl ?_ ?_
 ·rintro dn x s ⟨r,hrr⟩ rfl
  obtain ⟨hx,hdl⟩:=zgQ_ hrr
  subst hx
  rw [zhQ_ (by lia),Int.toNat_natCast,List.getElem?_eq_getElem hdl]
  walk_at "mo"
  have htk:row.take (dn++[(dn.length:Int)]).length=row.take dn.length++[row[dn.length]]:=by
   rw [List.length_append]; exact (List.take_append_getElem hdl).symm
  rw [htk,List.reverse_append]
  by_cases h:row[dn.length]=(c,none)
  ·rw [decide_eq_true h]
   walk_at "mo"
   refine ⟨_,rfl,?_⟩
   show (dn.length:Int)=(if row[dn.length]=(c,none) then ((row.take dn.length).reverse.length:Int) else _)
   rw [if_pos h,List.length_reverse,List.length_take]; lia
  ·rw [decide_eq_false h]
   walk_at "mo"
   refine ⟨_,rfl,?_⟩
   show lastR (row.take dn.length).reverse c=(if row[dn.length]=(c,none) then _ else lastR _ c)
   rw [if_neg h]; rfl
 ·rintro s rfl
  rw [zeB_,List.take_of_length_le (Nat.le_refl _)]
  rfl
noncomputable def Dec (f:Int→Int):Int→List Int→Prop
 | _,[]=>True
 | b,c::K=>0≤f c∧f c<b∧Dec f (f c) K
theorem Dec.snoc {f:Int→Int}{c:Int}:∀ {K:List Int}{b:Int},Dec f b K→0≤f c→(∀ x∈K,f c<f x)→f c<b→Dec f b (K++[c])
 | [],b,_,h0,_,hb=>⟨h0,hb,trivial⟩
 | x::K,b,⟨a1,a2,a3⟩,h0,hx,_=>⟨a1,a2,Dec.snoc a3 h0 (fun y hy=>hx y (List.mem_cons_of_mem _ hy)) (hx x List.mem_cons_self)⟩
theorem zfv_ {L:List Int}{c:Int}:c∈L→c∈onceL L:=by
 refine zU_ (P:=fun L=>c∈L→c∈onceL L) (fun h=>h) (fun L x ih h=>?_) L
 rw [zac_]
 rcases List.mem_append.mp h with h | h
 ·split
  ·exact ih h
  ·exact List.mem_append_left _ (ih h)
 ·have h:=List.mem_singleton.mp h
  subst h
  split
  ·assumption
  ·simp
theorem zc5_ (row:List Pas) (q:Int→Bool) (R1:List Pas):∀ R2,row.reverse=R1++R2→Dec (lastR row.reverse) row.length (onceL ((pcols R1).filter q))∧∀ x∈onceL ((pcols R1).filter q),(R2.length:Int)≤lastR row.reverse x:=by
 refine zU_ (P:=fun R1=>∀ R2,row.reverse=R1++R2→Dec (lastR row.reverse) row.length (onceL ((pcols R1).filter q))∧∀ x∈onceL ((pcols R1).filter q),(R2.length:Int)≤lastR row.reverse x) (fun R2 _=>⟨trivial,fun x h=>(by cases h)⟩) (fun R1 p ih R2 h=>?_) R1
 have h':row.reverse=R1++p::R2:=by rw [h]; simp
 obtain ⟨i1,i2⟩:=ih _ h'
 have hlen:=congrArg List.length h'
 rw [List.length_reverse,List.length_append,List.length_cons] at hlen
 have i3:∀ x∈onceL ((pcols R1).filter q),(R2.length:Int)+1≤lastR row.reverse x:=fun x hx=>by have:=i2 x hx; rw [List.length_cons] at this; lia
 have i4:∀ x∈onceL ((pcols R1).filter q),(R2.length:Int)≤lastR row.reverse x:=fun x hx=>by have:=i3 x hx; lia
 obtain ⟨c,o⟩:=p
 cases o with
 | some s =>
  have e1:pcols (R1++[(c,some s)])=pcols R1:=by unfold pcols; rw [List.filterMap_append]; simp
  rw [e1]; exact ⟨i1,i4⟩
 | none =>
  have e1:pcols (R1++[(c,none)])=pcols R1++[c]:=by unfold pcols; rw [List.filterMap_append]; rfl
  rw [e1,List.filter_append]
  cases g:q c with
  | false=>rw [show [c].filter q=[] by simp [g],List.append_nil]; exact ⟨i1,i4⟩
  | true =>
   rw [show [c].filter q=[c] by simp [g],zac_]
   by_cases hc:c∈onceL ((pcols R1).filter q)
   ·rw [if_pos hc]; exact ⟨i1,i4⟩
   ·rw [if_neg hc]
    have hl:lastR row.reverse c=R2.length:=by
     rw [h']; exact zf4_ fun z=>hc (zfv_ (List.mem_filter.mpr ⟨List.mem_filterMap.mpr ⟨_,z,rfl⟩,g⟩))
    refine ⟨i1.snoc (by rw [hl]; lia) (fun x hx=>by have:=i3 x hx; rw [hl]; lia) (by rw [hl]; lia),fun x hx=>?_⟩
    rcases List.mem_append.mp hx with hx | hx
    ·exact i4 x hx
    ·rw [List.mem_singleton.mp hx,hl]; exact Int.le_refl _
theorem zeA_ (c:Int):zaH_ c=.ok true:=rfl
theorem zh0_ {row:List Pas}{m:List (Int×List Nat)}(w:PkOk row m) (hr:∀ p∈row,psOk p) (hl:row.length≤1000):zbc_ (skey row m) m row=.ok true:=by
 have hk:=zfz_ (m:=m) hr
 have hd:=(zc5_ row (fun c=>!(getA m c).isSome) row.reverse [] (by simp)).1
 have he:onceL ((pcols row.reverse).filter fun c=>!(getA m c).isSome)=skey row m:=by unfold skey; rw [show pcols row.reverse=(pcols row).reverse by unfold pcols; rw [List.filterMap_reverse]]
 rw [he] at hd
 have hin:∀ c,((c,none):Pas)∈row→getA m c=none→c∈skey row m:=fun c h g=>by
  rw [← he]
  exact zfv_ (List.mem_filter.mpr ⟨List.mem_filterMap.mpr ⟨_,List.mem_reverse.mpr h,rfl⟩,by rw [g]; rfl⟩)
 unfold zbc_ za9_
 walk_at "mo"
 generalize skey row m=ky at hd hk hin ⊢
 refine zau_ (G:=fun z=>fnO (thenO z _)=.ok true) (fun dn (s:Int)=>Dec (lastR row.reverse) s (ky.drop dn.length)) hd ?_ ?_
 ·rintro dn x s ⟨r,hrr⟩ hdec
  have e1:ky.drop dn.length=x::r:=by rw [hrr]; exact List.drop_left
  rw [e1] at hdec
  obtain ⟨d1,d2,d3⟩:=hdec
  have hx:=hk.2.2 x (by rw [hrr]; simp)
  rw [zeA_,hx.2]
  walk_at "mo"
  rw [zgM_ row x hl]
  walk_at "mo"
  rw [decide_eq_false (show ¬ lastR row.reverse x<0 by lia)]
  walk_at "mo"
  rw [decide_eq_false (show ¬ s≤lastR row.reverse x by lia)]
  walk_at "mo"
  refine ⟨_,rfl,?_⟩
  have e2:ky.drop (dn++[x]).length=r:=by
   rw [hrr,show dn++x::r=(dn++[x])++r by simp]; exact List.drop_left
  rw [e2]; exact d3
 ·intro s _
  walk_at "mo"
  refine zau_ (G:=fun z=>fnO (thenO z _)=.ok true) (fun _ _=>True) trivial ?_ ?_
  ·rintro dn p s ⟨r,hrr⟩ _
   have hp:p∈row:=by rw [hrr]; simp
   obtain ⟨c,o⟩:=p
   cases o with
   | some s =>
    have e:decide (pTag (c,some s)=[100,101,97,108])=false:=by show decide (([112,105,99,107]:List Nat)=[100,101,97,108])=false; decide
    simp only [e]
    walk_at "mo"
    exact ⟨(),trivial,trivial⟩
   | none =>
    have e:decide (pTag (c,none)=[100,101,97,108])=true:=rfl
    simp only [e]
    walk_at "mo"
    cases g:getA m c with
    | some s =>
     walk_at "mo"
     exact ⟨(),trivial,trivial⟩
    | none =>
     have h1:(ky.any fun y=>decide (y=c))=true:=by rw [List.any_eq_true]; exact ⟨c,hin c hp g,by simp⟩
     rw [h1]
     walk_at "mo"
     exact ⟨(),trivial,trivial⟩
  ·intro s _
   rfl
theorem zft_ {row:List Pas}(hr:∀ p∈row,psOk p) (hl:row.length≤1000):∃ f,z3_ row=.ok f∧z0_ f row=.ok true∧(f=none∨∃ m,f=some (m,skey row m)∧PkOk row m):=by
 rcases zfR_ hr hl with ⟨e,h⟩ | ⟨m,e,w⟩
 ·refine ⟨_,e,?_,.inl rfl⟩
  unfold z0_ zaA_
  walk_at "mo"
  rcases zem_ hr hl with ⟨e',h'⟩ | ⟨m',e',w'⟩
  ·rw [e']
   rfl
  ·exact absurd h w'.nc
 ·refine ⟨_,e,?_,.inr ⟨m,rfl,w⟩⟩
  unfold z0_ zaA_
  walk_at "mo"
  rcases zem_ hr hl with ⟨e',h'⟩ | ⟨m',e',w'⟩
  ·exact absurd h' w.nc
  ·rw [e']
   walk_at "mo"
   rw [(zfV_ w w').mpr fun _ _=>Iff.rfl]
   walk_at "mo"
   refine zau_ (G:=fun z=>fnO (thenO z _)=.ok true) (fun _ _=>True) trivial ?_ ?_
   ·rintro dn x s _ _
    rw [zeA_]
    walk_at "mo"
    exact ⟨(),trivial,trivial⟩
   ·intro s _
    walk_at "mo"
    rw [zfe_ w w',zh0_ w' hr hl]
    rfl
theorem zeu_ {row:List Pas}{f:Option (List (Int×List Nat)×List Int)}(hr:∀ p∈row,psOk p) (hl:row.length≤1000) (h:f=none∨∃ m,f=some (m,skey row m)∧PkOk row m):∃ q,z9_ f=.ok q:=by
 unfold z9_ zae_
 walk_at "mo"
 rcases h with rfl | ⟨m,rfl,w⟩
 ·walk_at "mo"
  exact ⟨_,rfl⟩
 ·have h1:=w.len
  have h2:=(zfz_ (m:=m) hr).2.1
  walk_at "mo"
  rw [Mo.lim_ok (by lia),Mo.lim_ok (by lia)]
  exact ⟨_,rfl⟩
theorem zfG_ (ns:List Int) (k:Int) (h:0≤k):∃ c,zZ_ ns k=.ok c:=by
 unfold zZ_ zad_
 walk_at "mo"
 by_cases hk:k<(ns.length:Int)
 ·obtain ⟨x,e,_⟩:=zbr_ h hk
  rw [decide_eq_true hk,if_pos rfl,e]
  exact ⟨x,rfl⟩
 ·rw [decide_eq_false hk,if_neg (by decide)]
  exact ⟨0,rfl⟩
theorem zgl_ (ns:List Int) (hl:ns.length≤63):zim_ ns=.ok true:=by
 obtain ⟨c0,e0⟩:=zfG_ ns 0 (by decide)
 obtain ⟨c1,e1⟩:=zfG_ ns 1 (by decide)
 unfold zim_ ziq_
 walk_at "mo"
 rw [e0,e1]
 walk_at "mo"
 have hst:0≤c1 % 36∧c1 % 36<36:=by lia
 generalize c1 % 36=st at hst
 rw [limSG,limSG,ze0_ hst.1,zgR_ hst.1]
 walk_at "mo"
 have hh:heroOk (SG.drop st.toNat++SG.take st.toNat):=by
  refine ⟨?_,fun x hx=>?_⟩
  ·have:SG.length=37:=by decide
   rw [List.length_append,List.length_drop,List.length_take]; lia
  ·rcases List.mem_append.mp hx with h | h
   ·exact List.mem_of_mem_drop h
   ·exact List.mem_of_mem_take h
 rw [Mo.lim_ok (by have:=hh.1; rw [List.length_append] at this; lia)]
 walk_at "mo"
 generalize SG.drop st.toNat++SG.take st.toNat=hero at hh
 have pick:∀ (xs:List Int) (k:Int),(∀ x∈xs,0<x)→0≤k→k<xs.length→∃ x,atI xs k=some x∧0<x:=fun xs k h h0 h1=>by
  obtain ⟨x,e,hx⟩:=zbr_ h0 h1
  exact ⟨x,e,h x hx⟩
 obtain ⟨reach,ere,hre⟩:=pick [2,1,4,36] (c0 % 4) (by decide) (by lia) (by simp; lia)
 rw [ere]
 walk_at "mo"
 obtain ⟨share,esh,_⟩:=zbr_ (xs:=[(2:Int),0,4]) (k:=c0 / 4 % 3) (by lia) (by simp; lia)
 rw [esh]
 walk_at "mo"
 have hcl:=zgk_ ns (some 2) (some 102)
 refine zau_ (G:=fun m=>fnO (thenO m _)=.ok true) (fun dn (s:List Pas)=>s.length=dn.length∧∀ p∈s,psOk p) ⟨rfl,by simp⟩ ?_ ?_
 ·rintro dn x row ⟨r,hr⟩ ⟨w2,w3⟩
  have hdn:dn.length≤64:=by
   have:=congrArg List.length hr
   rw [List.length_append] at this; lia
  obtain ⟨p,ep,hp⟩:=zhK_ x hh st hre share
  rw [ep]
  walk_at "mo"
  rw [Mo.lim_ok (by lia)]
  refine ⟨_,rfl,by simp; exact w2,fun q hq=>?_⟩
  rcases List.mem_append.mp hq with h | h
  ·exact w3 q h
  ·rw [List.mem_singleton.mp h]; exact hp
 ·rintro row ⟨w2,w3⟩
  have hrl:row.length≤63:=by lia
  walk_at "mo"
  refine zau_ (G:=fun m=>fnO (thenO m _)=.ok true) (fun dn (s:List Pas)=>s.length≤64∧∀ p∈s,psOk p) ⟨by lia,w3⟩ ?_ ?_
  ·rintro dn p sp ⟨r,hr⟩ ⟨v2,v3⟩
   have hp:psOk p:=w3 p (by rw [hr]; simp)
   obtain ⟨c,o⟩:=p
   cases o with
   | none =>
    have e:decide (pTag (c,none)=[112,105,99,107])=false:=by show decide (([100,101,97,108]:List Nat)=[112,105,99,107])=false; decide
    simp only [e]
    walk_at "mo"
    exact ⟨_,rfl,v2,v3⟩
   | some s =>
    have e:decide (pTag (c,some s)=[112,105,99,107])=true:=rfl
    simp only [e]
    walk_at "mo"
    rw [decide_eq_true (show (sp.length:Int)<100 by lia)]
    walk_at "mo"
    obtain ⟨y,ey,hy⟩:=zhe_ (findS SG s+1+c0 / 12 % 36)
    rw [limSG,ey]
    walk_at "mo"
    rw [Mo.lim_ok (by simp; lia)]
    walk_at "mo"
    refine ⟨_,rfl,by simp; lia,fun q hq=>?_⟩
    rcases List.mem_append.mp hq with h | h
    ·exact w3 q h
    ·rw [List.mem_singleton.mp h]; exact ⟨hp.1,fun t z=>by cases z; exact ⟨y,rfl,hy⟩⟩
  ·rintro sp ⟨v2,v3⟩
   walk_at "mo"
   obtain ⟨f,ef,gf,sf⟩:=zft_ w3 (by lia)
   obtain ⟨g,eg,gg,_⟩:=zft_ v3 (by lia)
   obtain ⟨q,eq⟩:=zeu_ w3 (by lia) sf
   rw [ef]
   walk_at "mo"
   rw [gf,zdQ_ (by simp)]
   walk_at "mo"
   rw [eg]
   walk_at "mo"
   rw [gg]
   walk_at "mo"
   rw [eq]
   walk_at "mo"
   rw [Mo.lim_ok (by lia)]
   walk_at "mo"
end K15
namespace K15
open PySem PySem.Spec PyProof.Rows L2
theorem zi4_ {K:Fgg}:RD_law K:=zeU_ (fun ns hl hb=>zgl_ ns hl)
theorem all_mk {l:PySem.W.OpenLaw}{w:World}{K:Fgg}{h:Heap}{mg:Str→Option Value}{fa:Addr}(X:K.In h) (G:h.Ns mainGlobals mg) (hfa:mg "law" = some (.ref fa))
  {f0:Addr}{od0 an0:Option Addr}{sl0:Array (Option Value)}{oc0 kV0 dc0 pm0 cd0 ct0:Value}
  {f1:Addr}{od1 an1:Option Addr}{sl1:Array (Option Value)}{oc1 kV1 dc1 pm1 cd1 ct1:Value}
  {f2:Addr}{od2 an2:Option Addr}{sl2:Array (Option Value)}{oc2 kV2 dc2 pm2 cd2 ct2:Value}
  {f3:Addr}{od3 an3:Option Addr}{sl3:Array (Option Value)}{oc3 kV3 dc3 pm3 cd3 ct3:Value}
  {f4:Addr}{od4 an4:Option Addr}{sl4:Array (Option Value)}{oc4 kV4 dc4 pm4 cd4 ct4:Value}
  {f5:Addr}{od5 an5:Option Addr}{sl5:Array (Option Value)}{oc5 kV5 dc5 pm5 cd5 ct5:Value}
  {f6:Addr}{od6 an6:Option Addr}{sl6:Array (Option Value)}{oc6 kV6 dc6 pm6 cd6 ct6:Value}
  {f7:Addr}{od7 an7:Option Addr}{sl7:Array (Option Value)}{oc7 kV7 dc7 pm7 cd7 ct7:Value}
  {f8:Addr}{od8 an8:Option Addr}{sl8:Array (Option Value)}{oc8 kV8 dc8 pm8 cd8 ct8:Value}
  {f9:Addr}{od9 an9:Option Addr}{sl9:Array (Option Value)}{oc9 kV9 dc9 pm9 cd9 ct9:Value}
  {f10:Addr}{od10 an10:Option Addr}{sl10:Array (Option Value)}{oc10 kV10 dc10 pm10 cd10 ct10:Value}
  (a0:PySem.W.nsIn K mainGlobals "_law_cell_at" = some (some (.ref f0))) (l0:K.lookup f0=some ⟨oc0,od0,.func (PySem.W.fnOf "_law_cell_at" "_law_cell_at" (defArgs zu_) (defBody zu_) (defScope zu_) .none kV0 dc0 pm0 an0 cd0 ct0),sl0⟩) (c0:PySem.W.codeIn K cd0 "_law_cell_at" = true) (k0:PySem.W.keepIn K (.ref f0)=true)
  (a1:PySem.W.nsIn K mainGlobals "picked_signs" = some (some (.ref f1))) (l1:K.lookup f1=some ⟨oc1,od1,.func (PySem.W.fnOf "picked_signs" "picked_signs" (defArgs zq_) (defBody zq_) (defScope zq_) .none kV1 dc1 pm1 an1 cd1 ct1),sl1⟩) (c1:PySem.W.codeIn K cd1 "picked_signs" = true) (k1:PySem.W.keepIn K (.ref f1)=true)
  (a2:PySem.W.nsIn K mainGlobals "sense_of" = some (some (.ref f2))) (l2:K.lookup f2=some ⟨oc2,od2,.func (PySem.W.fnOf "sense_of" "sense_of" (defArgs zP_) (defBody zP_) (defScope zP_) .none kV2 dc2 pm2 an2 cd2 ct2),sl2⟩) (c2:PySem.W.codeIn K cd2 "sense_of" = true) (k2:PySem.W.keepIn K (.ref f2)=true)
  (a3:PySem.W.nsIn K mainGlobals "_law_changed" = some (some (.ref f3))) (l3:K.lookup f3=some ⟨oc3,od3,.func (PySem.W.fnOf "_law_changed" "_law_changed" (defArgs zs_) (defBody zs_) (defScope zs_) .none kV3 dc3 pm3 an3 cd3 ct3),sl3⟩) (c3:PySem.W.codeIn K cd3 "_law_changed" = true) (k3:PySem.W.keepIn K (.ref f3)=true)
  (a4:PySem.W.nsIn K mainGlobals "_law_picks" = some (some (.ref f4))) (l4:K.lookup f4=some ⟨oc4,od4,.func (PySem.W.fnOf "_law_picks" "_law_picks" (defArgs zD_) (defBody zD_) (defScope zD_) .none kV4 dc4 pm4 an4 cd4 ct4),sl4⟩) (c4:PySem.W.codeIn K cd4 "_law_picks" = true) (k4:PySem.W.keepIn K (.ref f4)=true)
  (a5:PySem.W.nsIn K mainGlobals "_law_last_deal" = some (some (.ref f5))) (l5:K.lookup f5=some ⟨oc5,od5,.func (PySem.W.fnOf "_law_last_deal" "_law_last_deal" (defArgs zh_) (defBody zh_) (defScope zh_) .none kV5 dc5 pm5 an5 cd5 ct5),sl5⟩) (c5:PySem.W.codeIn K cd5 "_law_last_deal" = true) (k5:PySem.W.keepIn K (.ref f5)=true)
  (a6:PySem.W.nsIn K mainGlobals "_law_whole" = some (some (.ref f6))) (l6:K.lookup f6=some ⟨oc6,od6,.func (PySem.W.fnOf "_law_whole" "_law_whole" (defArgs zB_) (defBody zB_) (defScope zB_) .none kV6 dc6 pm6 an6 cd6 ct6),sl6⟩) (c6:PySem.W.codeIn K cd6 "_law_whole" = true) (k6:PySem.W.keepIn K (.ref f6)=true)
  (a7:PySem.W.nsIn K mainGlobals "_law_key" = some (some (.ref f7))) (l7:K.lookup f7=some ⟨oc7,od7,.func (PySem.W.fnOf "_law_key" "_law_key" (defArgs z7_) (defBody z7_) (defScope z7_) .none kV7 dc7 pm7 an7 cd7 ct7),sl7⟩) (c7:PySem.W.codeIn K cd7 "_law_key" = true) (k7:PySem.W.keepIn K (.ref f7)=true)
  (a8:PySem.W.nsIn K mainGlobals "_law_good" = some (some (.ref f8))) (l8:K.lookup f8=some ⟨oc8,od8,.func (PySem.W.fnOf "_law_good" "_law_good" (defArgs zQ_) (defBody zQ_) (defScope zQ_) .none kV8 dc8 pm8 an8 cd8 ct8),sl8⟩) (c8:PySem.W.codeIn K cd8 "_law_good" = true) (k8:PySem.W.keepIn K (.ref f8)=true)
  (a9:PySem.W.nsIn K mainGlobals "_law_pass" = some (some (.ref f9))) (l9:K.lookup f9=some ⟨oc9,od9,.func (PySem.W.fnOf "_law_pass" "_law_pass" (defArgs zN_) (defBody zN_) (defScope zN_) .none kV9 dc9 pm9 an9 cd9 ct9),sl9⟩) (c9:PySem.W.codeIn K cd9 "_law_pass" = true) (k9:PySem.W.keepIn K (.ref f9)=true)
  (a10:PySem.W.nsIn K mainGlobals "law" = some (some (.ref f10))) (l10:K.lookup f10=some ⟨oc10,od10,.func (PySem.W.fnOf "law" "law" (defArgs zdH_) (defBody zdH_) (defScope zdH_) .none kV10 dc10 pm10 an10 cd10 ct10),sl10⟩) (c10:PySem.W.codeIn K cd10 "law" = true) (k10:PySem.W.keepIn K (.ref f10)=true)
  (z0:PySem.W.nsIn K mainGlobals "len" = some none)
  (z1:PySem.W.nsIn K mainGlobals "reversed" = some none)
  (z2:PySem.W.nsIn K mainGlobals "range" = some none)
  (z3:PySem.W.nsIn K mainGlobals "isinstance" = some none)
  (z4:PySem.W.nsIn K mainGlobals "int" = some none)
  (z5:PySem.W.nsIn K mainGlobals "bool" = some none)
  (z6:PySem.W.nsIn K mainGlobals "tuple" = some none)
  (z7:PySem.W.nsIn K mainGlobals "dict" = some none)
  (z8:PySem.W.nsIn K mainGlobals "list" = some none)
  (z9:PySem.W.nsIn K mainGlobals "str" = some none) :
  ∃ fd:FuncData,(∀ (s:Shared) (v:Value),BindsTo s fd ⟨[v],[]⟩ [("_law_script",v)])∧∀ base:Heap,K.In base→base.Ns mainGlobals mg→FnOk l.prog w K mg base CX0 4 fa fd ["_law_script"] (zcg_ K):=by
 have e:=hfa.symm.trans (PySem.W.mg_of X G a10)
 cases e
 have F0:=zbp_ (st:=zu_) l0 c0 k0
 have b0:=F0.binds (ps:=Qn7) fun _ _ _ _ _ _ us hl=>match us,hl with | [_,_],_=>rfl
 have F1:=zbp_ (st:=zq_) l1 c1 k1
 have b1:=F1.binds (ps:=["row"]) fun _ _ _ _ _ _ us hl=>match us,hl with | [_],_=>rfl
 have F2:=zbp_ (st:=zP_) l2 c2 k2
 have b2:=F2.binds (ps:=["row"]) fun _ _ _ _ _ _ us hl=>match us,hl with | [_],_=>rfl
 have F3:=zbp_ (st:=zs_) l3 c3 k3
 have b3:=F3.binds (ps:=Qn5) fun _ _ _ _ _ _ us hl=>match us,hl with | [_],_=>rfl
 have F4:=zbp_ (st:=zD_) l4 c4 k4
 have b4:=F4.binds (ps:=["_law_row"]) fun _ _ _ _ _ _ us hl=>match us,hl with | [_],_=>rfl
 have F5:=zbp_ (st:=zh_) l5 c5 k5
 have b5:=F5.binds (ps:=["_law_row", "_law_column"]) fun _ _ _ _ _ _ us hl=>match us,hl with | [_,_],_=>rfl
 have F6:=zbp_ (st:=zB_) l6 c6 k6
 have b6:=F6.binds (ps:=Qn5) fun _ _ _ _ _ _ us hl=>match us,hl with | [_],_=>rfl
 have F7:=zbp_ (st:=z7_) l7 c7 k7
 have b7:=F7.binds (ps:=Qn6) fun _ _ _ _ _ _ us hl=>match us,hl with | [_,_,_],_=>rfl
 have F8:=zbp_ (st:=zQ_) l8 c8 k8
 have b8:=F8.binds (ps:=["_law_found", "_law_row"]) fun _ _ _ _ _ _ us hl=>match us,hl with | [_,_],_=>rfl
 have F9:=zbp_ (st:=zN_) l9 c9 k9
 have b9:=F9.binds (ps:=Qn3) fun _ _ _ _ _ _ us hl=>match us,hl with | [_,_,_,_,_],_=>rfl
 have F10:=zbp_ (st:=zdH_) l10 c10 k10
 refine ⟨PySem.W.fnOf "law" "law" (defArgs zdH_) (defBody zdH_) (defScope zdH_) .none kV10 dc10 pm10 an10 cd10 ct10,fun s v=>.of_eq rfl,fun base _ _=>?_⟩
 have B_len:Gb mg "len" := PySem.W.mg_none_of X G z0
 have B_reversed:Gb mg "reversed" := PySem.W.mg_none_of X G z1
 have B_range:Gb mg "range" := PySem.W.mg_none_of X G z2
 have B_isinstance:Gb mg "isinstance" := PySem.W.mg_none_of X G z3
 have B_int:Gb mg "int" := PySem.W.mg_none_of X G z4
 have B_bool:Gb mg "bool" := PySem.W.mg_none_of X G z5
 have B_tuple:Gb mg "tuple" := PySem.W.mg_none_of X G z6
 have B_dict:Gb mg "dict" := PySem.W.mg_none_of X G z7
 have B_list:Gb mg "list" := PySem.W.mg_none_of X G z8
 have B_str:Gb mg "str" := PySem.W.mg_none_of X G z9
 have G_law_cell_at:Gd l.prog w K mg base CX0 1 "_law_cell_at" Qn7 (zj_ K):=⟨_,_,zbR_ B_len F0 zby_ zbS_,PySem.W.mg_of X G a0,k0,b0⟩
 have G_picked_signs:Gd l.prog w K mg base CX0 1 "picked_signs" ["row"] (zi_ K):=⟨_,_,zbA_  F1 zbu_ zbz_,PySem.W.mg_of X G a1,k1,b1⟩
 have G_sense_of:Gd l.prog w K mg base CX0 2 "sense_of" ["row"] (zw_ K):=⟨_,_,zdn_ G_picked_signs B_reversed F2 zcS_ zdt_,PySem.W.mg_of X G a2,k2,b2⟩
 have G_law_changed:Gd l.prog w K mg base CX0 1 "_law_changed" Qn5 (zn_ K):=⟨_,_,zbM_  F3 zbE_ zb3_,PySem.W.mg_of X G a3,k3,b3⟩
 have G_law_picks:Gd l.prog w K mg base CX0 1 "_law_picks" ["_law_row"] (zy_ K):=⟨_,_,zcO_  F4 zcp_ zcV_,PySem.W.mg_of X G a4,k4,b4⟩
 have G_law_last_deal:Gd l.prog w K mg base CX0 1 "_law_last_deal" ["_law_row", "_law_column"] (zg_ K):=⟨_,_,zbs_ B_range B_len F5 za8_ zbh_,PySem.W.mg_of X G a5,k5,b5⟩
 have G_law_whole:Gd l.prog w K mg base CX0 1 "_law_whole" Qn5 (zk_ K):=⟨_,_,zcq_ B_isinstance B_int B_bool F6 zce_ zcH_,PySem.W.mg_of X G a6,k6,b6⟩
 have G_law_key:Gd l.prog w K mg base CX0 2 "_law_key" Qn6 (zO_ K):=⟨_,_,zeq_ G_law_whole G_law_last_deal B_len F7 zdo_ zeb_,PySem.W.mg_of X G a7,k7,b7⟩
 have G_law_good:Gd l.prog w K mg base CX0 3 "_law_good" ["_law_found", "_law_row"] (zr_ K):=⟨_,_,zdu_ G_law_picks G_law_whole G_law_key B_isinstance B_tuple B_len B_dict B_list B_str F8 zcI_ zdD_,PySem.W.mg_of X G a8,k8,b8⟩
 have G_law_pass:Gd l.prog w K mg base CX0 1 "_law_pass" Qn3 (zF_ K):=⟨_,_,zdv_  F9 zct_ zdy_,PySem.W.mg_of X G a9,k9,b9⟩
 exact zjk_ (P:=l.prog) (w:=w) (base:=base) G_law_cell_at G_law_pass G_sense_of G_law_good G_law_changed B_list B_len F10 zil_ zi4_
theorem walk {l:PySem.W.OpenLaw}{q:Program}{loose:List Str}{XP:(Str→Option Value)→Heap→Prop}{YP:World→Heap→Prop}{d:DefRec}{K:Params→Fgg}(hn:l.most=some 63) (hdf:d.params.defaults=[])
  (hY:∀ (w:World) (h:Heap),YP w h→(K w.params).In h)
  (F:∀ (w:World) (mg:Str→Option Value) (fa:Addr) (h:Heap),(K w.params).In h→h.Ns mainGlobals mg→mg d.name=some (.ref fa) →
   ∃ fd:FuncData,(∀ (s:Shared) (u:Value),BindsTo s fd ⟨[u],[]⟩ [("_law_script",u)])∧∀ base:Heap,(K w.params).In base→base.Ns mainGlobals mg→FnOk l.prog w (K w.params) mg base CX0 4 fa fd ["_law_script"] (zcg_ (K w.params))) :
  PySem.W.WalkO q loose XP YP l.row.toRowW d [] (fun f vs=>PySem.call f vs) :=
 L2.zgo_ (n:=63) (k:=4) (x := "_law_script") (CX:=fun _=>CX0) (sp:=fun w=>zcg_ (K w.params)) hn (by decide) hdf ⟨rfl,by decide,by decide⟩ hY F (fun _ _ a ns hl hb _ hS=>⟨a,ns,rfl,hS,hl,hb,fun _=>rfl⟩) fun _ _ _ _ _ z=>z
end K15
open PySem PySem.W PyProof.Rows
set_option maxRecDepth 100000 in
set_option maxHeartbeats 0 in
theorem PySem.Challenge.cw_cardshop_k15_senses_holds : PySem.Challenge.rw_cardshop_k15_senses.Holds := by
 w_on; o_law; k_head; (case hw=>w_witness2)
 k_fill
 refine K15.walk (l:=PySem.Challenge.rw_cardshop_k15_senses) rfl rfl (fun w h Y=>PySem.W.kIn_of Y) ?F
 case F =>
  intro w mg fa h KX G hmg
  refine' K15.all_mk KX G hmg ?a0 ?l0 ?c0 ?k0 ?a1 ?l1 ?c1 ?k1 ?a2 ?l2 ?c2 ?k2 ?a3 ?l3 ?c3 ?k3 ?a4 ?l4 ?c4 ?k4 ?a5 ?l5 ?c5 ?k5 ?a6 ?l6 ?c6 ?k6 ?a7 ?l7 ?c7 ?k7 ?a8 ?l8 ?c8 ?k8 ?a9 ?l9 ?c9 ?k9 ?a10 ?l10 ?c10 ?k10 ?z0 ?z1 ?z2 ?z3 ?z4 ?z5 ?z6 ?z7 ?z8 ?z9
  (case a0=>k_is)
  (case l0=>k_is)
  (case c0=>k_is)
  (case k0=>k_is)
  (case a1=>k_is)
  (case l1=>k_is)
  (case c1=>k_is)
  (case k1=>k_is)
  (case a2=>k_is)
  (case l2=>k_is)
  (case c2=>k_is)
  (case k2=>k_is)
  (case a3=>k_is)
  (case l3=>k_is)
  (case c3=>k_is)
  (case k3=>k_is)
  (case a4=>k_is)
  (case l4=>k_is)
  (case c4=>k_is)
  (case k4=>k_is)
  (case a5=>k_is)
  (case l5=>k_is)
  (case c5=>k_is)
  (case k5=>k_is)
  (case a6=>k_is)
  (case l6=>k_is)
  (case c6=>k_is)
  (case k6=>k_is)
  (case a7=>k_is)
  (case l7=>k_is)
  (case c7=>k_is)
  (case k7=>k_is)
  (case a8=>k_is)
  (case l8=>k_is)
  (case c8=>k_is)
  (case k8=>k_is)
  (case a9=>k_is)
  (case l9=>k_is)
  (case c9=>k_is)
  (case k9=>k_is)
  (case a10=>k_is)
  (case l10=>k_is)
  (case c10=>k_is)
  (case k10=>k_is)
  (case z0=>k_is)
  (case z1=>k_is)
  (case z2=>k_is)
  (case z3=>k_is)
  (case z4=>k_is)
  (case z5=>k_is)
  (case z6=>k_is)
  (case z7=>k_is)
  (case z8=>k_is)
  (case z9=>k_is)
#print axioms PySem.Challenge.cw_cardshop_k15_senses_holds
