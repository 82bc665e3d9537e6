import PyProof.Rows.All
import Wide.All
import OpenK.AllK
import Wide.FinOn
import Lean
import PyProof.EqAt
import PyProof.EqKinds
import PyProof.TupleCall
import PyProof.StrLawsRepr
import PyProof.NeKinds
import KE.KEqDict
import KE.KDictOf
import KE.KPairComp
import PySem.Challenge.RW_cardshop_k17_rows_nearly_alike
set_option Elab.async false
set_option linter.all false
set_option maxRecDepth 100000
set_option maxHeartbeats 4000000
namespace L2
open PySem PySem.Spec PyProof.Rows
noncomputable abbrev Fgg:=PySem.W.Frag
noncomputable abbrev Pnn:=List (Addr×Obj)
noncomputable abbrev Key:=Sum Int Str
noncomputable def keyIs:Key→Value→Bool
 | .inl k,v=>Value.isInt k v
 | .inr x,v=>Value.isStrOf x v
noncomputable def keyH (w:World):Key→Int
 | .inl k=>hashInt k
 | .inr x=>hashStr w x
theorem zaf_:∀ {k:Key}{v:Value},keyIs k v=true→(∃ i t,k=Sum.inl i∧v=Value.int i t)∨(∃ x t,k=Sum.inr x∧v=Value.str x t)
 | .inl i,v,h=>by
  obtain ⟨t,e⟩:=Value.isInt_shape (k:=i) (v:=v) h
  exact .inl ⟨i,t,rfl,e⟩
 | .inr x,v,h=>by
  obtain ⟨t,e⟩:=Value.isStrOf_shape (x:=x) (v:=v) h
  exact .inr ⟨x,t,rfl,e⟩
theorem zh2_ (i:Int) (t:Tok):keyIs (.inl i) (.int i t)=true:=by simp [keyIs,Value.isInt]
theorem zit_ (x:Str) (t:Tok):keyIs (.inr x) (.str x t)=true:=by simp [keyIs,Value.isStrOf]
theorem zmk_ (a b:Int):decide ((Sum.inl a:Key)=Sum.inl b)=(a == b):=by
 by_cases e:a=b
 ·subst e; simp
 ·have h:¬ (Sum.inl a:Key)=Sum.inl b:=fun q=>e (Sum.inl.inj q)
  rw [decide_eq_false h]
  exact (beq_eq_false_iff_ne.mpr e).symm
theorem zmy_ (a b:Str):decide ((Sum.inr a:Key)=Sum.inr b)=decide (a=b):=by
 by_cases e:a=b
 ·subst e; simp
 ·have h:¬ (Sum.inr a:Key)=Sum.inr b:=fun q=>e (Sum.inr.inj q)
  rw [decide_eq_false h,decide_eq_false e]
theorem zlX_ (a:Int) (b:Str):decide ((Sum.inl a:Key)=Sum.inr b)=false:=decide_eq_false (fun q=>nomatch q)
theorem zlS_ (a:Str) (b:Int):decide ((Sum.inr a:Key)=Sum.inl b)=false:=decide_eq_false (fun q=>nomatch q)
noncomputable def mixKind (prog:Program) (w:World):PySem.KeyKind prog w Key where
 is:=keyIs
 hash:=keyH w
 inj:=fun v a b ha hb=>by
  rcases zaf_ ha with ⟨i,t,rfl,rfl⟩ | ⟨x,t,rfl,rfl⟩
  ·rcases zaf_ hb with ⟨j,u,rfl,e⟩ | ⟨y,u,rfl,e⟩
   ·injection e with e1 _; rw [e1]
   ·exact nomatch e
  ·rcases zaf_ hb with ⟨j,u,rfl,e⟩ | ⟨y,u,rfl,e⟩
   ·exact nomatch e
   ·injection e with e1 _; rw [e1]
 byValue:=fun k v h=>by
  rcases zaf_ h with ⟨i,t,rfl,rfl⟩ | ⟨x,t,rfl,rfl⟩<;>rfl
 pyHash:=fun hv h=>by
  rcases zaf_ hv with ⟨i,t,rfl,rfl⟩ | ⟨x,t,rfl,rfl⟩
  ·exact wpAny_pyHash_int h
  ·exact wpAny_pyHash_str h
 eqBool:=fun hu hv h=>by
  rcases zaf_ hu with ⟨i,t,rfl,rfl⟩ | ⟨x,t,rfl,rfl⟩
  ·rcases zaf_ hv with ⟨j,u,rfl,rfl⟩ | ⟨y,u,rfl,rfl⟩
   ·rw [zmk_] at h; exact wpAny_eqBool_int h
   ·rw [zlX_] at h; exact SeqAt.EqAt.int_str i t y u _ _ _ _ h
  ·rcases zaf_ hv with ⟨j,u,rfl,rfl⟩ | ⟨y,u,rfl,rfl⟩
   ·rw [zlS_] at h; exact SeqAt.EqAt.str_int x t j u _ _ _ _ h
   ·rw [zmy_] at h; exact wpAny_eqBool_str h
 «strs»:=fun k x t v h=>by
  rcases zaf_ h with ⟨i,u,rfl,e⟩ | ⟨y,u,rfl,e⟩
  ·exact nomatch e
  ·injection e with e1 _
   subst e1
   cases v<;>rfl
theorem zgv_ (prog:Program) (w:World) (k:Key) (v:Value):(mixKind prog w).is k v=keyIs k v:=rfl
theorem zgm_ (prog:Program) (w:World) (i:Int) (t:Tok):(mixKind prog w).is (.inl i) (.int i t)=true:=zh2_ i t
theorem zf5_ (prog:Program) (w:World) (x:Str) (t:Tok):(mixKind prog w).is (.inr x) (.str x t)=true:=zit_ x t
end L2
namespace L2
open PySem PySem.Spec PyProof.Rows
inductive V where
 | non | bl (b:Bool) | int (i:Int) | str (x:Str) | byt (b:Array UInt8) | flt (b:UInt64) | ref (a:Addr) | ty (n:String)
 deriving DecidableEq
noncomputable def RelV:V→Value→Prop
 | .non,u=>u=Value.none
 | .bl b,u=>u=Value.bool b
 | .int i,u=>∃ t,u=Value.int i t
 | .str x,u=>∃ t,u=Value.str x t
 | .byt b,u=>∃ t,u=Value.bytes b t
 | .flt b,u=>∃ t,u=Value.float b t
 | .ref a,u=>u=Value.ref a
 | .ty n,u=>u=Value.type n
noncomputable abbrev Vals:List V→List Value→Prop:=Paired RelV
theorem Vals.length {xs:List V}{us:List Value}(r:Vals xs us):xs.length=us.length:=Paired.length r
theorem Vals.get:∀ {xs:List V}{us:List Value}{i:Nat}{x:V},Vals xs us→xs[i]?=some x→∃ u,us[i]?=some u∧RelV x u
 | _,_,_,_,.nil,e=>by simp at e
 | _,_,0,_,.cons r _,e=>by simp at e; subst e; exact ⟨_,rfl,r⟩
 | _,_,i+1,x,.cons _ t,e=>by
  obtain ⟨u,h1,h2⟩:=Vals.get (i:=i) (x:=x) t (by simpa using e)
  exact ⟨u,by simpa using h1,h2⟩
theorem Vals.append:∀ {xs ys:List V}{us ws:List Value},Vals xs us→Vals ys ws→Vals (xs++ys) (us++ws)
 | _,_,_,_,.nil,s=>s
 | _,_,_,_,.cons r t,s=>.cons r (Vals.append t s)
theorem Vals.take:∀ {xs:List V}{us:List Value}(n:Nat),Vals xs us→Vals (xs.take n) (us.take n)
 | _,_,0,_=>.nil
 | _,_,_+1,.nil=>.nil
 | _,_,n+1,.cons r t=>.cons r (Vals.take n t)
theorem Vals.drop:∀ {xs:List V}{us:List Value}(n:Nat),Vals xs us→Vals (xs.drop n) (us.drop n)
 | _,_,0,r=>r
 | _,_,_+1,.nil=>.nil
 | _,_,n+1,.cons _ t=>Vals.drop n t
noncomputable def RelO:Option V→Option Value→Prop
 | some v,some u=>RelV v u
 | none,none=>True
 | _,_=>False
noncomputable def KV {κ:Type}:List (κ×V)→List (κ×Value)→Prop:=Paired fun (p:κ×V) (q:κ×Value)=>p.1=q.1∧RelV p.2 q.2
noncomputable def kV:Key→V
 | .inl i=>.int i
 | .inr x=>.str x
inductive HO where
 | lst (xs:List V)
 | tup (xs:List V)
 | dK (kvs:List (Key×V)) | dT (kvs:List (List Key×V))
 | set (S:Int→Bool) (n:Nat)
 | ins (C dx:Addr) (fs:List (Str×V))
 | own (x:Addr)
 | xd (fs:List (Str×V))
 | met (f x:Addr)
 | rng (lo hi:Int)
 | frz (o:Obj) (u:HO)
 | tbl (ps:Array Value)
 | ext (φ:Heap→Prop)
noncomputable abbrev Hp:=Addr→Option HO
noncomputable def upd (H:Hp) (a:Addr) (o:HO):Hp:=fun b=>if b=a then some o else H b
theorem zau_ {H:Hp}{a:Addr}{o:HO}:upd H a o a=some o:=by unfold upd; rw [if_pos rfl]
theorem zby_ {H:Hp}{a b:Addr}{o:HO}(h:b≠a):upd H a o b=H b:=by unfold upd; rw [if_neg h]
theorem ne_of {H:Hp}{a b:Addr}{o u:HO}(h:H a=some o) (h':H b=some u) (d:o≠u):a≠b:=by
 intro e; subst e; rw [h] at h'; exact d (Option.some.inj h')
theorem zbp_ {H:Hp}{a b:Addr}{o:HO}(h:H a=some o) (h':H b=none):a≠b:=by
 intro e; subst e; rw [h] at h'; cases h'
section
variable (P:Program) (w:World)
noncomputable def ObjOk (H:Hp) (h:Heap) (a:Addr):HO→Prop
 | .lst xs=>xs.length≤sizeLine∧∃ (its:List Value) (n:Nat),Vals xs its∧h.get? a=some { cls:=.type "list",data:=.seq its.toArray n }
 | .tup xs=>xs.length≤sizeLine∧∃ its:List Value,Vals xs its∧IsTup h a its.toArray
 | .dK kvs=>kvs.length≤sizeLine∧(a == sysModules)=false∧∃ vs,KV kvs vs∧h.DictOf (mixKind P w) a vs
 | .dT kvs=>kvs.length≤sizeLine∧(a == sysModules)=false∧∃ xs:List (List Key×Addr×Value),
   Paired (fun (p:List Key×V) (q:List Key×Addr×Value)=>p.1=q.1∧H q.2.1=some (.tup (p.1.map kV))∧RelV p.2 q.2.2) kvs xs ∧
   ∃ o es ep,h.get? a=some o∧o.ExactDict∧o.data=.dict es ep∧es.toList=xs.map (entryOfKey (tupleKind (mixKind P w)))∧(xs.map (·.1)).Nodup
 | .set S n=>h.SetOf (intKind P w) a S n
 | .ins C dx fs=>H dx=some (.own a)∧fs.length≤1000∧dx≠a∧h.get? a=some (PySem.W.instObj C dx) ∧
   ∃ mA,h.Ns1 dx mA∧(∀ f,RelO (fs.lookup f) (mA f))∧PySem.Within mA (fs.map (·.1))
 | .own _=>∃ o,h.get? a=some o
 | .xd fs=>∃ mA,h.Ns1 a mA∧∀ f,RelO (fs.lookup f) (mA f)
 | .rng lo hi=>∃ t u v,h.get? a=some { cls:=.type "range",data:=.fields #[.int lo t,.int hi u,.int 1 v] }
 | .frz o u=>h.get? a=some o∧ObjOk H h a u
 | .tbl ps=>h.get? a=some { cls:=.none,data:=.fields ps }
 | .met f x=>h.get? a=some (PySem.W.methodObj (.ref f) (.ref x))
 | .ext φ=>φ h∧(∃ o,h.get? a=some o)∧∀ h1 h2:Heap,φ h1→(∀ o,h1.get? a=some o→h2.get? a=some o)→φ h2
noncomputable def HOk (H:Hp) (h:Heap):Prop:=∀ a o,H a=some o→ObjOk P w H h a o
end
section
variable {P:Program}{w:World}{H H':Hp}{h h':Heap}{a:Addr}{o:HO}
theorem ObjOk.lt (x:ObjOk P w H h a o):a<h.objs.size:=by
 cases o with
 | lst xs=>obtain ⟨_,_,_,_,e⟩:=x; exact Heap.lt_size e
 | tup xs=>obtain ⟨_,_,_,p⟩:=x; exact p.lt
 | dK kvs=>obtain ⟨_,_,_,_,o,_,_,e,_⟩:=x; exact Heap.lt_size e
 | dT kvs=>obtain ⟨_,_,_,_,o,_,_,e,_⟩:=x; exact Heap.lt_size e
 | set S n=>obtain ⟨o,_,_,_,e,_⟩:=x; exact Heap.lt_size e
 | ins C dx fs=>obtain ⟨_,_,_,e,_⟩:=x; exact Heap.lt_size e
 | own y=>obtain ⟨_,e⟩:=x; exact Heap.lt_size e
 | xd fs=>obtain ⟨_,⟨_,_,_,e,_⟩,_⟩:=x; exact Heap.lt_size e
 | rng lo hi=>obtain ⟨_,_,_,e⟩:=x; exact Heap.lt_size e
 | frz ob u=>obtain ⟨e,_⟩:=x; exact Heap.lt_size e
 | tbl ps=>exact Heap.lt_size (show h.get? a=some _ from x)
 | met f y=>exact Heap.lt_size (show h.get? a=some _ from x)
 | ext φ=>obtain ⟨_,⟨_,e⟩,_⟩:=x; exact Heap.lt_size e
theorem Paired.mapP {α β:Type}{F G:α→β→Prop}:∀ {l₁:List α}{l₂:List β},Paired F l₁ l₂→(∀ a b,F a b→G a b)→Paired G l₁ l₂
 | _,_,.nil,_=>.nil
 | _,_,.cons r t,f=>.cons (f _ _ r) (Paired.mapP t f)
theorem ObjOk.stay (x:ObjOk P w H h a o) (k:∀ b u,(b=a∨H b=some (.own a))→h.get? b=some u→h'.get? b=some u)
  (ho:∀ b,H b=some (.own a)→H' b=some (.own a)) (ht:∀ b xs,H b=some (.tup xs)→H' b=some (.tup xs)):ObjOk P w H' h' a o:=by
 induction o with
 | lst xs=>obtain ⟨z,its,n,r,e⟩:=x; exact ⟨z,its,n,r,k _ _ (.inl rfl) e⟩
 | tup xs=>obtain ⟨z,its,r,ob,e,c⟩:=x; exact ⟨z,its,r,ob,k _ _ (.inl rfl) e,c⟩
 | dK kvs=>obtain ⟨z,y,vs,r,ob,es,ep,e,c⟩:=x; exact ⟨z,y,vs,r,ob,es,ep,k _ _ (.inl rfl) e,c⟩
 | dT kvs =>
  obtain ⟨z,y,xs,r,ob,es,ep,e,c⟩:=x
  exact ⟨z,y,xs,Paired.mapP r fun p q z=>⟨z.1,ht _ _ z.2.1,z.2.2⟩,ob,es,ep,k _ _ (.inl rfl) e,c⟩
 | set S n=>obtain ⟨ob,es,ep,t,e,c⟩:=x; exact ⟨ob,es,ep,t,k _ _ (.inl rfl) e,c⟩
 | ins C dx fs =>
  obtain ⟨d,z,ne,e,mA,⟨od,es,ep,e2,c⟩,r⟩:=x
  exact ⟨ho _ d,z,ne,k _ _ (.inl rfl) e,mA,⟨od,es,ep,k _ _ (.inr d) e2,c⟩,r⟩
 | own y=>obtain ⟨ob,e⟩:=x; exact ⟨ob,k _ _ (.inl rfl) e⟩
 | xd fs=>obtain ⟨mA,⟨od,es,ep,e,c⟩,r⟩:=x; exact ⟨mA,⟨od,es,ep,k _ _ (.inl rfl) e,c⟩,r⟩
 | rng lo hi=>obtain ⟨t,u,v,e⟩:=x; exact ⟨t,u,v,k _ _ (.inl rfl) e⟩
 | frz ob u ih=>obtain ⟨e,q⟩:=x; exact ⟨k _ _ (.inl rfl) e,ih q⟩
 | tbl ps =>
  have e:h.get? a=some { cls:=.none,data:=.fields ps }:=x
  show h'.get? a=some { cls:=.none,data:=.fields ps }
  exact k a _ (.inl rfl) e
 | met f y =>
  have e:h.get? a=some (PySem.W.methodObj (.ref f) (.ref y)):=x
  show h'.get? a=some (PySem.W.methodObj (.ref f) (.ref y))
  exact k a _ (.inl rfl) e
 | ext φ=>obtain ⟨p,⟨o,e⟩,st⟩:=x; exact ⟨st _ _ p fun o q=>k _ _ (.inl rfl) q,⟨o,k _ _ (.inl rfl) e⟩,st⟩
theorem HOk.lt (x:HOk P w H h) (e:H a=some o):a<h.objs.size:=(x a o e).lt
theorem HOk.fresh (x:HOk P w H h) (e:h.objs.size≤a):H a=none:=by
 cases q:H a with
 | none=>rfl
 | some u=>exact absurd (Nat.lt_of_lt_of_le (x.lt q) e) (Nat.lt_irrefl _)
theorem HOk.kept (x:HOk P w H h) (k:∀ b u,h.get? b=some u→h'.get? b=some u):HOk P w H h':=fun a o e =>
 (x a o e).stay (fun b u _ q=>k b u q) (fun _ q=>q) fun _ _ q=>q
theorem HOk.laid (x:HOk P w H h) (k:∀ b u,h.get? b=some u→h'.get? b=some u) (hp:h.objs.size≤a) (new:ObjOk P w (upd H a o) h' a o):HOk P w (upd H a o) h':=fun b u e=>by
 have hn:=x.fresh hp
 by_cases hb:b=a
 ·subst hb; rw [zau_] at e; cases e; exact new
 ·rw [zby_ hb] at e
  exact (x b u e).stay (fun c v _ q=>k c v q) (fun c q=>by rw [zby_ (zbp_ q hn)]; exact q) fun c xs q=>by rw [zby_ (zbp_ q hn)]; exact q
end
noncomputable def Rd (H:Hp) (a:Addr) (u:HO):Prop:=H a=some u∨∃ o,H a=some (.frz o u)
theorem Rd.of {H:Hp}{a:Addr}{u:HO}(h:H a=some u):Rd H a u:=.inl h
theorem Rd.ok {P:Program}{w:World}{H:Hp}{h:Heap}{a:Addr}{u:HO}(r:Rd H a u) (x:HOk P w H h):ObjOk P w H h a u:=by
 rcases r with r | ⟨o,r⟩
 ·exact x a u r
 ·obtain ⟨_,q⟩:=x a _ r
  exact q
noncomputable def Mut:Option HO→Prop
 | some (.lst _)=>True
 | some (.dK _)=>True
 | some (.dT _)=>True
 | some (.set _ _)=>True
 | some (.ins _ _ _)=>True
 | some (.ext _)=>True
 | _=>False
section
variable {P:Program}{w:World}{H:Hp}{h h':Heap}{x e:Addr}{o':HO}
theorem HOk.write (ok:HOk P w H h) (mu:Mut (H x)) (he:e=x∨H e=some (.own x)) (k:∀ b u,b≠e→h.get? b=some u→h'.get? b=some u) (heo:∃ u,h'.get? e=some u)
  (new:ObjOk P w (upd H x o') h' x o'):HOk P w (upd H x o') h':=fun b u q=>by
 have nown:∀ c y,H c=some (.own y)→c≠x:=fun c y r z=>by subst z; rw [r] at mu; exact mu
 have ntup:∀ c xs,H c=some (.tup xs)→c≠x:=fun c xs r z=>by subst z; rw [r] at mu; exact mu
 by_cases hb:b=x
 ·subst hb; rw [zau_] at q; cases q; exact new
 ·rw [zby_ hb] at q
  by_cases hbe:b=e
  ·have q':H b=some (.own x):=by
    rcases he with z | z
    ·exact absurd (hbe.trans z) hb
    ·rw [hbe]; exact z
   rw [q] at q'; cases q'
   obtain ⟨v,hv⟩:=heo
   exact ⟨v,by rw [hbe]; exact hv⟩
  ·refine (ok b u q).stay (fun c v hc r=>k c v ?_ r) (fun c r=>by rw [zby_ (nown c b r)]; exact r) fun c xs r=>by rw [zby_ (ntup c xs r)]; exact r
   rcases hc with rfl | hc
   ·exact hbe
   ·rintro rfl
    rcases he with z | z
    ·exact nown c b hc z
    ·rw [hc] at z; cases z; exact hb rfl
end
structure Un (fs ex:List Addr) (H H':Hp) (h h':Heap):Prop where
 keep:∀ b o,h.get? b=some o→H b=none→b∉fs→b∉ex→h'.get? b=some o
 slot:∀ b o,h.get? b=some o→H b=none→b∈fs→b∉ex→∃ sl,h'.get? b=some { o with slots:=sl }
 free:∀ b o,h.get? b=some o→H b=none→b∉ex→H' b=none
 there:∀ b o,h.get? b=some o→b∉ex→∃ o',h'.get? b=some o'
 tups:∀ b xs,H b=some (.tup xs)→H' b=some (.tup xs)
 frzs:∀ b o u,H b=some (.frz o u)→H' b=some (.frz o u)
 tbls:∀ b ps,H b=some (.tbl ps)→∃ more,H' b=some (.tbl (ps++more))
section
variable {fs fs' ex ex':List Addr}{H H1 H2:Hp}{h h1 h2 h':Heap}{a x e:Addr}{o:HO}
theorem Un.any (u:Un fs ex H H1 h h1) {b:Addr}{ob:Obj}(q:h.get? b=some ob) (n:H b=none) (hx:b∉ex):∃ sl,h1.get? b=some { ob with slots:=sl }:=by
 by_cases hb:b∈fs
 ·exact u.slot b ob q n hb hx
 ·exact ⟨ob.slots,u.keep b ob q n hb hx⟩
theorem Un.kept (k:∀ b u,h.get? b=some u→h'.get? b=some u):Un fs ex H H h h' :=
 ⟨fun b ob q _ _ _=>k b ob q,fun b ob q _ _ _=>⟨ob.slots,k b ob q⟩,fun _ _ _ n _=>n,fun b ob q _=>⟨ob,k b ob q⟩,fun _ _ q=>q,fun _ _ _ q=>q,fun _ ps q=>⟨#[],by rw [q]; simp⟩⟩
theorem Un.refl:Un fs ex H H h h:=Un.kept fun _ _ q=>q
theorem Un.laid (k:∀ b u,h.get? b=some u→h'.get? b=some u) (hp:h.objs.size≤a) (hn:H a=none):Un fs ex H (upd H a o) h h' where
 keep:=fun b u q _ _ _=>k b u q
 slot:=fun b u q _ _ _=>⟨u.slots,k b u q⟩
 free:=fun b u q n _=>by rw [zby_ (Nat.ne_of_lt (Nat.lt_of_lt_of_le (Heap.lt_size q) hp))]; exact n
 there:=fun b u q _=>⟨u,k b u q⟩
 tups:=fun b xs q=>by rw [zby_ (zbp_ q hn)]; exact q
 frzs:=fun b u xs q=>by rw [zby_ (zbp_ q hn)]; exact q
 tbls:=fun b ps q=>⟨#[],by rw [zby_ (zbp_ q hn),q]; simp⟩
theorem Un.write (mu:Mut (H x)) (he:e=x∨H e=some (.own x)) (k:∀ b u,b≠e→h.get? b=some u→h'.get? b=some u) (heo:∃ u,h'.get? e=some u):Un fs ex H (upd H x o) h h':=by
 have hx:∀ b,H b=none→b≠x:=fun b n z=>by subst z; rw [n] at mu; exact mu
 have hb:∀ b,H b=none→b≠e:=fun b n z=>by
  subst z
  rcases he with r | r
  ·exact hx b n r
  ·rw [n] at r; cases r
 have hm:∀ b u,H b=some u→¬ Mut (some u)→b≠x:=fun b u q nm z=>by subst z; rw [q] at mu; exact nm mu
 refine ⟨fun b u q n _ _=>k b u (hb b n) q,fun b u q n _ _=>⟨u.slots,k b u (hb b n) q⟩,fun b u q n _=>by rw [zby_ (hx b n)]; exact n,fun b u q _=>?_,
  fun b xs q=>by rw [zby_ (hm b _ q fun z=>z)]; exact q,fun b u xs q=>by rw [zby_ (hm b _ q fun z=>z)]; exact q,fun b ps q=>⟨#[],by rw [zby_ (hm b _ q fun z=>z),q]; simp⟩⟩
 by_cases hbe:b=e
 ·subst hbe; exact heo
 ·exact ⟨u,k b u hbe q⟩
end
noncomputable def trk (h:Heap) (H:Hp):List Addr:=(List.range h.objs.size).filter fun a=>(H a).isSome
noncomputable def hidT (h:Heap) (H:Hp):Heap:=PySem.W.hideAll h (trk h H)
theorem zic_ (h:Heap) (H:Hp):(hidT h H).objs.size=h.objs.size:=PySem.W.hideAll_size _ _
theorem zi8_ {h:Heap}{H:Hp}{b:Addr}{o:Obj}(e:h.get? b=some o) (n:H b=none):(hidT h H).get? b=some o :=
 PySem.W.hideAll_get _ e fun hm=>by
  have q:(H b).isSome=true:=(List.mem_filter.mp hm).2
  rw [n] at q; simp at q
theorem zku_ {h:Heap}{H:Hp}{b:Addr}{o:Obj}(e:(hidT h H).get? b=some o):h.get? b=some o∧H b=none:=by
 have e':h.get? b=some o:=PySem.W.of_hideAll (trk h H) e
 refine ⟨e',?_⟩
 cases q:H b with
 | none=>rfl
 | some x =>
  have hm:b∈trk h H:=List.mem_filter.mpr ⟨List.mem_range.mpr (Heap.lt_size e'),by simp [q]⟩
  have z:(hidT h H).get? b=none:=PySem.W.hideAll_none (trk h H) hm
  rw [z] at e; cases e
noncomputable def allNews (g h:Heap) (L:Addr):Pnn:=(List.range h.objs.size).filterMap fun a=>if a=L∨(g.get? a).isSome=true then none else (h.get? a).map fun o=>(a,o)
noncomputable def rest (g h:Heap) (L d:Addr):Pnn:=(allNews g h L).filter fun p=>decide (p.1≠d)
end L2
namespace L2
open PySem PySem.Spec PyProof.Rows
structure Mod (K:Fgg) (mg:Str→Option Value) (base:Heap):Prop where
 kin:K.In base
 glob:base.Ns mainGlobals mg
 blt:∃ mb,base.Ns builtinsNs mb∧∀ x:Str,x ≠ "__name__" → mb x=bootBuiltins x
 nolimit:base.NoLimit
structure Cx where
 prog:Program
 w:World
 K:Fgg
 mg:Str→Option Value
 base:Heap
 A:Around
 N:List Str
 s₀:Shared
 H₀:Hp
 env:Env
 outer:List Env
 stack:List Env
 ex:List Addr
 fn:Str→Bool
 calm:Bool
 pn:Pnn
 xe:Value→Shared→Prop
noncomputable def frs (l:List Env):List Addr:=l.filterMap (·.frame)
noncomputable abbrev Cx.fs (X:Cx):List Addr:=frs X.outer
noncomputable def Vis (sc:Scope) (x:Str):Prop:=sc.names.lookup x=some .local∨sc.names.lookup x=some .cell∨sc.names.lookup x=some .free
noncomputable def Loc (sc:Scope) (x:Str):Prop:=sc.names.lookup x=some .local∨sc.names.lookup x=some .cell
noncomputable def Look (env:Env) (h:Heap) (m:Str→Option Value) (x:Str) (u:Value):Prop :=
 (env.kindOf x=some .local∧m x=some u)∨((env.kindOf x=some .cell∨env.kindOf x=some .free)∧∃ c,env.cells.lookup x=some c∧h.IsCell c (some u))
structure Cx.Ok (X:Cx):Prop where
 mod:Mod X.K X.mg X.base
 kind:X.env.scope.kind=.function
 glob:X.env.globals=mainGlobals
 blt:X.env.builtins=builtinsNs
 above:X.s₀.heap.objs.size≤X.env.locals
 inj:∀ x y c,X.env.cells.lookup x=some c→X.env.cells.lookup y=some c→x=y
 has:∀ x,(X.env.kindOf x=some .cell∨X.env.kindOf x=some .free)→∃ c,X.env.cells.lookup x=some c
 cab:∀ x c,X.fn x=true→X.env.cells.lookup x=some c→X.s₀.heap.objs.size≤c
 hd:X.calm=true→X.A.handled=none
 frames:X.A.frames=some X.stack
 stk:X.stack=X.outer∨(X.stack=X.env::X.outer∧X.env.frame=some X.env.locals)
 exf:∀ b∈X.ex,b≠X.env.locals∧∀ x c,X.env.cells.lookup x=some c→c≠b
 bs:∀ b o,X.base.get? b=some o→X.s₀.heap.get? b=some o∧X.H₀ b=none
 bsz:X.base.objs.size≤X.s₀.heap.objs.size
 noex:∀ b o,X.base.get? b=some o→b∉X.ex
 exfs:∀ b∈X.ex,b∉X.fs
 funs:X.s₀.heap.FunFrames X.base X.outer
 frf:∀ b∈X.fs,X.H₀ b=none
structure Inv (X:Cx) (pins:Pnn) (σ:List (Option V)) (H:Hp) (s:Shared):Prop where
 ok:X.Ok
 os:s.os=X.s₀.os
 bare:AllBare s.gens
 base:Un X.fs X.ex X.H₀ H X.s₀.heap s.heap
 loc:∃ m,s.heap.Ns X.env.locals m∧∀ (i:Nat) (x:Str) (v:V),X.N[i]?=some x→σ[i]?=some (some v)→Vis X.env.scope x→∃ u,RelV v u∧Look X.env s.heap m x u
 cell:∀ x c,X.env.cells.lookup x=some c→∃ v,s.heap.IsCell c v
 free:H X.env.locals=none
 freeC:∀ x c,X.env.cells.lookup x=some c→H c=none
 pin:∀ p∈X.pn++pins,s.heap.get? p.1=some p.2∧H p.1=none∧p.1≠X.env.locals∧p.1∉X.fs∧∀ v,p.2.data≠.cell v
 hok:HOk X.prog X.w H s.heap
 len:σ.length=X.N.length
section
variable {X:Cx}{pins:Pnn}{σ:List (Option V)}{H H':Hp}{s:Shared}{h':Heap}
theorem Cx.Ok.nofr (ok:X.Ok) {b:Addr}{o:Obj}(e:X.base.get? b=some o):b∉X.fs:=fun hb=>by
 have:=(ok.funs.mem hb).1
 rw [e] at this; cases this
theorem Inv.bs (I:Inv X pins σ H s):∀ b o,X.base.get? b=some o→s.heap.get? b=some o∧H b=none:=fun b o e =>
 ⟨I.base.keep b o (I.ok.bs b o e).1 (I.ok.bs b o e).2 (I.ok.nofr e) (I.ok.noex b o e),I.base.free b o (I.ok.bs b o e).1 (I.ok.bs b o e).2 (I.ok.noex b o e)⟩
theorem Inv.bk (I:Inv X pins σ H s):∀ b o,X.base.get? b=some o→s.heap.get? b=some o:=fun b o e=>(I.bs b o e).1
theorem Inv.mod (I:Inv X pins σ H s):Mod X.K X.mg X.base:=I.ok.mod
theorem Inv.kIn (I:Inv X pins σ H s):X.K.In s.heap:=I.ok.mod.kin.keeps I.bk
theorem Inv.lt (I:Inv X pins σ H s):X.env.locals<s.heap.objs.size:=let ⟨_,hn,_⟩:=I.loc; hn.lt
theorem Inv.sz (I:Inv X pins σ H s):X.s₀.heap.objs.size≤s.heap.objs.size:=Nat.le_trans I.ok.above (Nat.le_of_lt I.lt)
theorem Inv.nofs (I:Inv X pins σ H s) {a:Addr}(h:s.heap.objs.size≤a):a∉X.fs:=fun hb=>by
 obtain ⟨_,o,ho,_⟩:=I.ok.funs.mem hb
 exact absurd (Nat.lt_of_lt_of_le (Heap.lt_size ho) (Nat.le_trans I.sz h)) (Nat.lt_irrefl _)
theorem Inv.cne (I:Inv X pins σ H s):∀ x c,X.env.cells.lookup x=some c→c≠X.env.locals:=fun x c e z=>by
 obtain ⟨v,o,ho,hd⟩:=I.cell x c e
 obtain ⟨m,⟨o',es,ep,ho',hd',_⟩,_⟩:=I.loc
 rw [z,ho'] at ho; cases ho; rw [hd'] at hd; cases hd
theorem Inv.funs (I:Inv X pins σ H s):s.heap.FunFrames X.base X.outer:=by
 have all:∀ (l:List Env),(∀ b∈frs l,b∈X.fs)→X.s₀.heap.FunFrames X.base l→s.heap.FunFrames X.base l:=by
  intro l
  induction l with
  | nil=>intro _ _; trivial
  | cons env r ih =>
   intro hs hl
   obtain ⟨hk,⟨L,o,hf,hn,ho,hd⟩,hr⟩:=hl
   have hL:L∈X.fs:=hs L (by unfold frs; rw [List.filterMap_cons,hf]; exact List.mem_cons_self)
   obtain ⟨sl,e⟩:=I.base.slot L o ho (I.ok.frf L hL) hL fun z=>I.ok.exfs L z hL
   exact ⟨hk,⟨L,_,hf,hn,e,hd⟩,ih (fun b hb=>hs b (by unfold frs; rw [List.filterMap_cons,hf]; exact List.mem_cons_of_mem _ hb)) hr⟩
 exact all X.outer (fun _ hb=>hb) I.ok.funs
theorem Inv.stack (I:Inv X pins σ H s):s.heap.FunFrames X.base X.stack:=by
 rcases I.ok.stk with e | ⟨e,hf⟩
 ·rw [e]; exact I.funs
 ·rw [e]
  obtain ⟨m,hn,_⟩:=I.loc
  refine .cons (by rw [I.ok.kind]; decide) hf hn ?_ I.funs
  exact Heap.get?_none_of_le (Nat.le_trans I.ok.bsz I.ok.above)
theorem Inv.stkSub (I:Inv X pins σ H s):∀ b∈frs X.stack,b∈X.env.locals::X.fs:=fun b hb=>by
 rcases I.ok.stk with e | ⟨e,hf⟩
 ·rw [e] at hb; exact List.mem_cons_of_mem _ hb
 ·rw [e] at hb
  unfold frs at hb
  rw [List.filterMap_cons,hf] at hb
  exact hb
theorem Inv.stkFree (I:Inv X pins σ H s):∀ b∈frs X.stack,H b=none:=fun b hb=>by
 rcases List.mem_cons.mp (I.stkSub b hb) with e | hb
 ·rw [e]; exact I.free
 ·obtain ⟨_,o,ho,_⟩:=I.ok.funs.mem hb
  exact I.base.free b o ho (I.ok.frf b hb) fun z=>I.ok.exfs b z hb
theorem Inv.step {g':Array GenState}{t':Nat}{d':Drawn}{ch:List Addr}(I:Inv X pins σ H s)
  (hch:∀ b∈ch,(b∈X.ex∨X.s₀.heap.objs.size≤b)∧b≠X.env.locals∧(∀ x c,X.env.cells.lookup x=some c→c≠b)∧∀ p∈X.pn++pins,p.1≠b)
  (keep:∀ b o,b≠X.env.locals→b∉X.fs→b∉ch→s.heap.get? b=some o→H b=none→h'.get? b=some o)
  (slot:∀ b o,b≠X.env.locals→b∈X.fs→b∉ch→s.heap.get? b=some o→H b=none→∃ sl,h'.get? b=some { o with slots:=sl }) (free:∀ b o,b∉ch→s.heap.get? b=some o→H b=none→H' b=none)
  (there:∀ b o,b∉ch→s.heap.get? b=some o→∃ o',h'.get? b=some o')
  (tups:∀ b xs,H b=some (.tup xs)→H' b=some (.tup xs)) (frzs:∀ b o u,H b=some (.frz o u)→H' b=some (.frz o u)) (tbls:∀ b ps,H b=some (.tbl ps)→∃ more,H' b=some (.tbl (ps++more)))
  (ns:∀ m,s.heap.Ns X.env.locals m→h'.Ns X.env.locals m) (hok:HOk X.prog X.w H' h') (hg:AllBare g') :
  Inv X pins σ H' { s with heap:=h',gens:=g',drawn:=d',toks:=t' }:=by
 have neL:∀ b o,X.s₀.heap.get? b=some o→b≠X.env.locals:=fun b o e=>Nat.ne_of_lt (Nat.lt_of_lt_of_le (Heap.lt_size e) I.ok.above)
 have neC:∀ b o,X.s₀.heap.get? b=some o→b∉X.ex→b∉ch:=fun b o e hx hb=>by
  rcases (hch b hb).1 with z | z
  ·exact hx z
  ·exact absurd (Nat.lt_of_lt_of_le (Heap.lt_size e) z) (Nat.lt_irrefl _)
 have cellK:∀ x c,X.env.cells.lookup x=some c→∀ v,s.heap.IsCell c v→h'.IsCell c v:=fun x c e v ⟨o,ho,hd⟩=>by
  have nch:c∉ch:=fun z=>(hch c z).2.2.1 x c e rfl
  by_cases hc:c∈X.fs
  ·obtain ⟨sl,q⟩:=slot c o (I.cne x c e) hc nch ho (I.freeC x c e)
   exact ⟨_,q,hd⟩
  ·exact ⟨o,keep c o (I.cne x c e) hc nch ho (I.freeC x c e),hd⟩
 refine ⟨I.ok,I.os,hg,⟨fun b o e n hb hx=>?_,fun b o e n hb hx=>?_,fun b o e n hx=>?_,fun b o e hx=>?_,fun b xs e=>tups b xs (I.base.tups b xs e),fun b o xs e=>frzs b o xs (I.base.frzs b o xs e),fun b ps e=>?_⟩,?_,fun x c e=>?_,?_,fun x c e=>?_,fun p hp=>?_,hok,I.len⟩
 ·exact keep b o (neL b o e) hb (neC b o e hx) (I.base.keep b o e n hb hx) (I.base.free b o e n hx)
 ·obtain ⟨sl,e1⟩:=I.base.slot b o e n hb hx
  obtain ⟨sl',e2⟩:=slot b _ (neL b o e) hb (neC b o e hx) e1 (I.base.free b o e n hx)
  exact ⟨sl',e2⟩
 ·obtain ⟨o',e1⟩:=I.base.there b o e hx
  exact free b o' (neC b o e hx) e1 (I.base.free b o e n hx)
 ·obtain ⟨o',e1⟩:=I.base.there b o e hx
  exact there b o' (neC b o e hx) e1
 ·obtain ⟨m1,e1⟩:=I.base.tbls b ps e
  obtain ⟨m2,e2⟩:=tbls b _ e1
  exact ⟨m1++m2,by rw [e2,Array.append_assoc]⟩
 ·obtain ⟨m,hn,hl⟩:=I.loc
  refine ⟨m,ns m hn,fun i x v e1 e2 e3=>?_⟩
  obtain ⟨u,r,l⟩:=hl i x v e1 e2 e3
  refine ⟨u,r,?_⟩
  rcases l with l | ⟨k,c,e,z⟩
  ·exact .inl l
  ·exact .inr ⟨k,c,e,cellK x c e _ z⟩
 ·obtain ⟨v,z⟩:=I.cell x c e
  exact ⟨v,cellK x c e v z⟩
 ·obtain ⟨m,⟨o,_,_,ho,_⟩,_⟩:=I.loc
  exact free _ o (fun z=>(hch _ z).2.1 rfl) ho I.free
 ·obtain ⟨v,o,ho,hd⟩:=I.cell x c e
  exact free c o (fun z=>(hch c z).2.2.1 x c e rfl) ho (I.freeC x c e)
 ·obtain ⟨e,n,ne,nf,d⟩:=I.pin p hp
  have nch:p.1∉ch:=fun z=>(hch p.1 z).2.2.2 p hp rfl
  exact ⟨keep p.1 p.2 ne nf nch e n,free p.1 p.2 nch e n,ne,nf,d⟩
theorem Inv.un {t':Nat}(I:Inv X pins σ H s) (u:Un X.fs [] H H' s.heap h') (hok:HOk X.prog X.w H' h'):Inv X pins σ H' { s with heap:=h',toks:=t' }:=by
 obtain ⟨m,⟨o,es,ep,ho,r⟩,_⟩:=id I.loc
 obtain ⟨sl,hL⟩:=u.any ho I.free (by simp)
 exact I.step (g':=s.gens) (d':=s.drawn) (ch:=[]) (fun _ z=>nomatch z) (fun b o _ hb _ e n=>u.keep b o e n hb (by simp)) (fun b o _ hb _ e n=>u.slot b o e n hb (by simp)) (fun b o _ e n=>u.free b o e n (by simp)) (fun b o _ e=>u.there b o e (by simp)) u.tups u.frzs u.tbls (fun m' hm=>by
  obtain ⟨o',es',ep',ho',r'⟩:=hm
  rw [ho] at ho'; cases ho'
  exact ⟨_,es',ep',hL,r'⟩) hok I.bare
theorem Inv.call {g':Array GenState}{t':Nat}{d':Drawn}{ch:List Addr}(I:Inv X pins σ H s) (u:Un (frs X.stack) ch H H' s.heap h') (hok:HOk X.prog X.w H' h') (hg:AllBare g')
  (hch:∀ b∈ch,(b∈X.ex∨X.s₀.heap.objs.size≤b)∧b≠X.env.locals∧(∀ x c,X.env.cells.lookup x=some c→c≠b)∧∀ p∈X.pn++pins,p.1≠b) :
  Inv X pins σ H' { s with heap:=h',gens:=g',drawn:=d',toks:=t' }:=by
 obtain ⟨m,⟨o,es,ep,ho,r⟩,_⟩:=id I.loc
 obtain ⟨sl,hL⟩:=u.any ho I.free fun z=>(hch _ z).2.1 rfl
 exact I.step (ch:=ch) hch (fun b o hL hb hc e n=>u.keep b o e n (fun z=>(List.mem_cons.mp (I.stkSub b z)).elim hL hb) hc) (fun b o _ _ hc e n=>u.any e n hc) (fun b o hc e n=>u.free b o e n hc) (fun b o hc e=>u.there b o e hc) u.tups u.frzs u.tbls (fun m' hm=>by
  obtain ⟨o',es',ep',ho',r'⟩:=hm
  rw [ho] at ho'; cases ho'
  exact ⟨_,es',ep',hL,r'⟩) hok hg
theorem Inv.turned {t':Nat}{it:Addr}(I:Inv X pins σ H s) (k:∀ b o,b≠it→s.heap.get? b=some o→h'.get? b=some o) (hn:H it=none) (hL:it≠X.env.locals)
  (h1:it∈X.ex∨X.s₀.heap.objs.size≤it) (h2:∀ x c,X.env.cells.lookup x=some c→c≠it) (h3:∀ p∈X.pn++pins,p.1≠it):Inv X pins σ H { s with heap:=h',toks:=t' }:=by
 have nit:∀ b u,H b=some u→b≠it:=fun b u e z=>by rw [z,hn] at e; cases e
 refine I.step (g':=s.gens) (d':=s.drawn) (ch:=[it]) (fun b hb=>?_) (fun b o _ _ hc e _=>k b o (fun z=>hc (by simp [z])) e) (fun b o _ _ hc e _=>⟨o.slots,k b o (fun z=>hc (by simp [z])) e⟩) (fun _ _ _ _ n=>n)
  (fun b o hc e=>⟨o,k b o (fun z=>hc (by simp [z])) e⟩) (fun _ _ e=>e) (fun _ _ _ e=>e) (fun b ps e=>⟨#[],by rw [e]; simp⟩) (fun m hm=>?_) (fun b u e=>?_) I.bare
 ·have e:b=it:=by simpa using hb
  subst e
  exact ⟨h1,hL,h2,h3⟩
 ·obtain ⟨o,es,ep,ho,r⟩:=hm
  exact ⟨o,es,ep,k _ o (Ne.symm hL) ho,r⟩
 ·refine (I.hok b u e).stay (fun c v hc q=>k c v ?_ q) (fun _ q=>q) fun _ _ q=>q
  rcases hc with z | z
  ·rw [z]; exact nit b u e
  ·exact nit c _ z
theorem Inv.tok (I:Inv X pins σ H s) (t:Nat):Inv X pins σ H { s with toks:=t }:=I.un (h':=s.heap) (t':=t) Un.refl I.hok
theorem Inv.kept {t':Nat}(I:Inv X pins σ H s) (k:∀ b u,s.heap.get? b=some u→h'.get? b=some u):Inv X pins σ H { s with heap:=h',toks:=t' }:=I.un (Un.kept k) (I.hok.kept k)
theorem Inv.laid {a:Addr}{o:HO}{t':Nat}(I:Inv X pins σ H s) (k:∀ b u,s.heap.get? b=some u→h'.get? b=some u) (hp:s.heap.objs.size≤a) (new:ObjOk X.prog X.w (upd H a o) h' a o) :
  Inv X pins σ (upd H a o) { s with heap:=h',toks:=t' }:=I.un (Un.laid k hp (I.hok.fresh hp)) (I.hok.laid k hp new)
theorem Inv.write {x e:Addr}{o:HO}{t':Nat}(I:Inv X pins σ H s) (mu:Mut (H x)) (he:e=x∨H e=some (.own x)) (k:∀ b u,b≠e→s.heap.get? b=some u→h'.get? b=some u) (heo:∃ u,h'.get? e=some u)
  (new:ObjOk X.prog X.w (upd H x o) h' x o):Inv X pins σ (upd H x o) { s with heap:=h',toks:=t' }:=I.un (Un.write mu he k heo) (I.hok.write mu he k heo new)
theorem Inv.pins_of {pins':Pnn}(I:Inv X pins σ H s) (h:∀ p∈pins',s.heap.get? p.1=some p.2∧H p.1=none∧p.1≠X.env.locals∧p.1∉X.fs∧∀ v,p.2.data≠.cell v):Inv X pins' σ H s :=
 ⟨I.ok,I.os,I.bare,I.base,I.loc,I.cell,I.free,I.freeC,fun p hp=>(List.mem_append.mp hp).elim (fun z=>I.pin p (List.mem_append_left _ z)) (h p),I.hok,I.len⟩
theorem zgW_ {N:List Str}(hN:N.Nodup) {i j:Nat}{x:Str}(a:N[i]?=some x) (b:N[j]?=some x):i=j:=by
 obtain ⟨h1,e1⟩:=List.getElem?_eq_some_iff.mp a
 obtain ⟨h2,e2⟩:=List.getElem?_eq_some_iff.mp b
 exact (List.getElem_inj hN).mp (e1.trans e2.symm)
theorem zie_ {M:Model}{A:Around}{E:Value→Shared→Prop}{i:Nat}{x:Str}{v:V}{u:Value}{Q:Unit→Shared→Prop}(I:Inv X pins σ H s) (hN:X.N.Nodup) (hi:X.N[i]?=some x) (hx:Loc X.env.scope x) (r:RelV v u)
  (h:∀ s',Inv X pins (σ.set i (some v)) H s'→(∃ a,Heap.SameBut a s.heap s'.heap∧(a=X.env.locals∨X.env.cells.lookup x=some a))→Q () s') (hf:X.fn x=true∨X.env.scope.names.lookup x=some .local:=by first | exact .inl rfl | exact .inr rfl | assumption):wpAny M A (storeName X.env x u) Q E s:=by
 obtain ⟨m,hn,hl⟩:=id I.loc
 have hcls:(X.env.scope.kind == .class || (X.env.scope.kind == .module && X.env.locals != X.env.globals))=false:=by rw [I.ok.kind]; rfl
 have hiσ:i<σ.length:=by rw [I.len]; exact (List.getElem?_eq_some_iff.mp hi).1
 have cne:=I.cne
 have tracked:∀ {a:Addr}{h':Heap},(∃ o,s.heap.get? a=some o∧H a=none)→Heap.SameBut a s.heap h'→HOk X.prog X.w H h':=fun {a h'} ha hs b ob e=>by
  obtain ⟨_,_,hfree⟩:=ha
  refine (I.hok b ob e).stay (fun c w' hc q=>(hs.2 c ?_).trans q) (fun _ q=>q) fun _ _ q=>q
  rintro rfl
  rcases hc with rfl | hc
  ·rw [hfree] at e; cases e
  ·rw [hfree] at hc; cases hc
 rcases hx with hk | hk
 ·refine wpAny_storeName_local hk hn (fun h' hn' hs=>?_) hcls
  obtain ⟨oL,_,_,hoL,_⟩:=id hn
  refine h _ ⟨I.ok,I.os,I.bare,⟨fun b o e n hb hx=>?_,fun b o e n hb hx=>?_,I.base.free,fun b o e hx=>?_,I.base.tups,I.base.frzs,I.base.tbls⟩,⟨_,hn',fun j y v' e1 e2 e3=>?_⟩,fun y c e=>?_,I.free,I.freeC,fun p hp=>?_,tracked ⟨oL,hoL,I.free⟩ hs,by simpa using I.len⟩ ⟨_,hs,.inl rfl⟩
  ·exact (hs.2 b (Nat.ne_of_lt (Nat.lt_of_lt_of_le (Heap.lt_size e) I.ok.above))).trans (I.base.keep b o e n hb hx)
  ·obtain ⟨sl,e1⟩:=I.base.slot b o e n hb hx
   exact ⟨sl,(hs.2 b (Nat.ne_of_lt (Nat.lt_of_lt_of_le (Heap.lt_size e) I.ok.above))).trans e1⟩
  ·obtain ⟨o',e1⟩:=I.base.there b o e hx
   exact ⟨o',(hs.2 b (Nat.ne_of_lt (Nat.lt_of_lt_of_le (Heap.lt_size e) I.ok.above))).trans e1⟩
  ·by_cases hj:j=i
   ·subst hj
    rw [hi] at e1; cases e1
    rw [List.getElem?_set_self hiσ] at e2
    cases e2
    exact ⟨u,r,.inl ⟨hk,by simp⟩⟩
   ·rw [List.getElem?_set_ne (Ne.symm hj)] at e2
    obtain ⟨u',r',q⟩:=hl j y v' e1 e2 e3
    refine ⟨u',r',?_⟩
    rcases q with ⟨k,e⟩ | ⟨k,c,e,z⟩
    ·refine .inl ⟨k,?_⟩
     have:y≠x:=fun e=>hj (zgW_ hN e1 (e ▸ hi))
     simp [this,e]
    ·exact .inr ⟨k,c,e,z.sameBut hs (cne y c e)⟩
  ·obtain ⟨w',z⟩:=I.cell y c e
   exact ⟨w',z.sameBut hs (cne y c e)⟩
  ·obtain ⟨e,n,ne,nf,d⟩:=I.pin p hp
   exact ⟨(hs.2 p.1 ne).trans e,n,ne,nf,d⟩
 ·have hfn:X.fn x=true:=by
   rcases hf with z | z
   ·exact z
   ·rw [z] at hk; cases hk
  obtain ⟨c,hc⟩:=I.ok.has x (.inl hk)
  obtain ⟨w',z⟩:=I.cell x c hc
  refine wpAny_storeName_cell I.ok.kind hk hc z (fun h' hc' hs=>?_)
  obtain ⟨oc,hoc,hocd⟩:=id z
  refine h { s with heap:=h' } ⟨I.ok,I.os,I.bare,⟨fun b o e n hb hx=>?_,fun b o e n hb hx=>?_,I.base.free,fun b o e hx=>?_,I.base.tups,I.base.frzs,I.base.tbls⟩,⟨m,hn.sameBut hs (Ne.symm (cne x c hc)),fun j y v' e1 e2 e3=>?_⟩,fun y c' e=>?_,I.free,I.freeC,fun p hp=>?_,tracked ⟨oc,hoc,I.freeC x c hc⟩ hs,by simpa using I.len⟩ ⟨c,hs,.inr hc⟩
  ·exact (hs.2 b (Nat.ne_of_lt (Nat.lt_of_lt_of_le (Heap.lt_size e) (I.ok.cab x c hfn hc)))).trans (I.base.keep b o e n hb hx)
  ·obtain ⟨sl,e1⟩:=I.base.slot b o e n hb hx
   exact ⟨sl,(hs.2 b (Nat.ne_of_lt (Nat.lt_of_lt_of_le (Heap.lt_size e) (I.ok.cab x c hfn hc)))).trans e1⟩
  ·obtain ⟨o',e1⟩:=I.base.there b o e hx
   exact ⟨o',(hs.2 b (Nat.ne_of_lt (Nat.lt_of_lt_of_le (Heap.lt_size e) (I.ok.cab x c hfn hc)))).trans e1⟩
  ·by_cases hj:j=i
   ·subst hj
    rw [hi] at e1; cases e1
    rw [List.getElem?_set_self hiσ] at e2
    cases e2
    exact ⟨u,r,.inr ⟨.inl hk,c,hc,hc'⟩⟩
   ·rw [List.getElem?_set_ne (Ne.symm hj)] at e2
    obtain ⟨u',r',q⟩:=hl j y v' e1 e2 e3
    refine ⟨u',r',?_⟩
    rcases q with q | ⟨k,c',e,z'⟩
    ·exact .inl q
    ·refine .inr ⟨k,c',e,z'.sameBut hs ?_⟩
     rintro rfl
     exact hj (zgW_ hN e1 (I.ok.inj _ _ _ e hc ▸ hi))
  ·by_cases hcc:c'=c
   ·subst hcc; exact ⟨_,hc'⟩
   ·obtain ⟨w2,z2⟩:=I.cell y c' e
    exact ⟨w2,z2.sameBut hs hcc⟩
  ·obtain ⟨e,n,ne,nf,d⟩:=I.pin p hp
   refine ⟨(hs.2 p.1 ?_).trans e,n,ne,nf,d⟩
   intro q
   rw [q,hoc] at e
   have q':oc=p.2:=Option.some.inj e
   exact d w' (by rw [← q']; exact hocd)
theorem zhB_ {M:Model}{A:Around}{E:Value→Shared→Prop}{i:Nat}{x:Str}{v:V}{u:Value}{Q:Unit→Shared→Prop}(I:Inv X pins σ H s) (hN:X.N.Nodup) (hi:X.N[i]?=some x) (hx:Loc X.env.scope x) (r:RelV v u)
  (h:∀ s',Inv X pins (σ.set i (some v)) H s'→Q () s') (hf:X.fn x=true∨X.env.scope.names.lookup x=some .local:=by first | exact .inl rfl | exact .inr rfl | assumption):wpAny M A (storeName X.env x u) Q E s :=
 zie_ I hN hi hx r (fun s' I' _=>h s' I') hf
theorem Inv.call' {s':Shared}{ch:List Addr}(I:Inv X pins σ H s) (ho:s'.os=s.os) (u:Un (frs X.stack) ch H H' s.heap s'.heap) (hok:HOk X.prog X.w H' s'.heap) (hg:AllBare s'.gens)
  (hch:∀ b∈ch,(b∈X.ex∨X.s₀.heap.objs.size≤b)∧b≠X.env.locals∧(∀ x c,X.env.cells.lookup x=some c→c≠b)∧∀ p∈X.pn++pins,p.1≠b):Inv X pins σ H' s':=by
 obtain ⟨h',g',d',t',o'⟩:=s'
 have e:o'=s.os:=ho
 subst e
 exact I.call (g':=g') (t':=t') (d':=d') u hok hg hch
end
noncomputable abbrev XK:=Value→Option Addr→Hp→Prop
noncomputable abbrev St:=List (Option V)
noncomputable abbrev VK:=V→Hp→Prop
noncomputable abbrev TE:=St→Hp→VK→Prop
noncomputable abbrev TT:=St→Hp→(Bool→Hp→Prop)→Prop
noncomputable abbrev TA:=St→Hp→(List V→Hp→Prop)→Prop
structure Ends where
 nx:St→Hp→Prop
 rt:VK
 bk:St→Hp→Prop:=fun _ _=>False
 ct:St→Hp→Prop:=fun _ _=>False
noncomputable abbrev TS:=Ends→St→Hp→Prop
noncomputable def EP (X:Cx) (pins:Pnn) (σ:St) (Q:VK) (u:Value) (s':Shared):Prop:=∃ v H',Inv X pins σ H' s'∧RelV v u∧Q v H'
noncomputable def TP (X:Cx) (pins:Pnn) (σ:St) (Q:Bool→Hp→Prop) (b:Bool) (s':Shared):Prop:=∃ H',Inv X pins σ H' s'∧Q b H'
noncomputable def AP (X:Cx) (pins:Pnn) (σ:St) (Q:List V→Hp→Prop) (us:List Value) (s':Shared):Prop:=∃ vs H',Inv X pins σ H' s'∧Vals vs us∧Q vs H'
noncomputable def SP (X:Cx) (pins:Pnn) (D:Ends) (f:Flow) (s':Shared):Prop :=
 match f with
 | .next=>∃ σ' H',Inv X pins σ' H' s'∧D.nx σ' H'
 | .brk=>∃ σ' H',Inv X pins σ' H' s'∧D.bk σ' H'
 | .cont=>∃ σ' H',Inv X pins σ' H' s'∧D.ct σ' H'
 | .ret u=>∃ v σ' H',Inv X pins σ' H' s'∧RelV v u∧D.rt v H'
noncomputable def PE (X:Cx) (e:Expr) (t:TE):Prop :=
 ∀ (pins:Pnn) (s:Shared) (σ:St) (H:Hp) (Q:VK),Inv X pins σ H s→t σ H Q→wpAny (model X.prog X.w) X.A (eval e X.env) (EP X pins σ Q) X.xe s
noncomputable def PT (X:Cx) (e:Expr) (t:TT):Prop :=
 ∀ (pins:Pnn) (s:Shared) (σ:St) (H:Hp) (Q:Bool→Hp→Prop),Inv X pins σ H s→t σ H Q→wpAny (model X.prog X.w) X.A (isTrue e X.env (eval e X.env)) (TP X pins σ Q) X.xe s
noncomputable def PW (X:Cx) (e:Expr) (t:TT):Prop :=
 ∀ (whole:Sem Value) (pins:Pnn) (s:Shared) (σ:St) (H:Hp) (Q:Bool→Hp→Prop),Inv X pins σ H s→t σ H Q→wpAny (model X.prog X.w) X.A (isTrue e X.env whole) (TP X pins σ Q) X.xe s
theorem PW.pt {X:Cx}{e:Expr}{t:TT}(h:PW X e t):PT X e t:=h _
noncomputable def PA (X:Cx) (es:List Expr) (t:TA):Prop :=
 ∀ (pos:Pos) (pins:Pnn) (s:Shared) (σ:St) (H:Hp) (Q:List V→Hp→Prop),Inv X pins σ H s→t σ H Q→wpAny (model X.prog X.w) X.A (spliced (backTo pos (starEach es X.env))) (AP X pins σ Q) X.xe s
noncomputable def PS (X:Cx) (st:Stmt) (t:TS):Prop :=
 ∀ (pins:Pnn) (s:Shared) (σ:St) (H:Hp) (D:Ends),Inv X pins σ H s→t D σ H→wpAny (model X.prog X.w) X.A (exec st X.env) (SP X pins D) X.xe s
noncomputable def PSs (X:Cx) (st:List Stmt) (t:TS):Prop :=
 ∀ (pins:Pnn) (s:Shared) (σ:St) (H:Hp) (D:Ends),Inv X pins σ H s→t D σ H→wpAny (model X.prog X.w) X.A (execs st X.env) (SP X pins D) X.xe s
theorem thn {α:Type}{t:Sem α}{Q Q':α→Shared→Prop}{M:Model}{A:Around}{E:Value→Shared→Prop}{s:Shared}(h:wpAny M A t Q E s) (hQ:∀ a s,Q a s→Q' a s):wpAny M A t Q' E s:=wpAny_mono h hQ fun _ _ x=>x
end L2
namespace L2
open PySem PySem.Spec PyProof.Rows
section
variable {X:Cx}
theorem bin {a b:Expr}{ta tb:TE}(ha:PE X a ta) (hb:PE X b tb) {pins:Pnn}{s:Shared}{σ:St}{H:Hp}{R:V→V→Hp→Prop}(I:Inv X pins σ H s) (h:ta σ H fun x H1=>tb σ H1 fun y H2=>R x y H2)
  {α:Type}{Q:α→Shared→Prop}{f:Value→Value→Sem α}
  (hf:∀ v u s2 x y H2,Inv X pins σ H2 s2→RelV x v→RelV y u→R x y H2→wpAny (model X.prog X.w) X.A (f v u) Q X.xe s2) :
  wpAny (model X.prog X.w) X.A (eval a X.env) (fun v s₁=>wpAny (model X.prog X.w) X.A (eval b X.env) (fun u s₂=>wpAny (model X.prog X.w) X.A (f v u) Q X.xe s₂) X.xe s₁) X.xe s:=by
 refine thn (ha pins s σ H _ I h) fun v s1 ⟨x,H1,I1,r1,q1⟩=>?_
 refine thn (hb pins s1 σ H1 _ I1 q1) fun u s2 ⟨y,H2,I2,r2,q2⟩=>?_
 exact hf v u s2 x y H2 I2 r1 r2 q2
noncomputable def tVar (i:Nat):TE:=fun σ H Q=>∃ v,σ[i]?=some (some v)∧Q v H
noncomputable def tC (v:V):TE:=fun _ H Q=>Q v H
theorem zlK_ {i:Nat}{x:Str}{pos:Pos}(hN:X.N[i]?=some x) (hv:Vis X.env.scope x) (hd:(x == ("__debug__" : Str))=false:=by decide) (hcd:(x == ("__classdict__" : Str))=false:=by decide):PE X (.Name x pos) (tVar i):=by
 intro pins s σ H Q I h
 obtain ⟨v,e,h⟩:=h
 obtain ⟨m,hn,hl⟩:=I.loc
 obtain ⟨u,r,l⟩:=hl i x v hN e hv
 have fin:EP X pins σ Q u s:=⟨v,H,I,r,h⟩
 rcases l with ⟨hk,hm⟩ | ⟨hk,c,hc,hcell⟩
 ·exact wpAny_Name (wpAny_loadName_local I.ok.kind hk hn hm fin) hd
 ·rcases hk with hk | hk
  ·exact wpAny_Name (wpAny_loadName_cell I.ok.kind hk hc hcell fin) hd
  ·exact wpAny_Name (wpAny_loadName_free I.ok.kind hk hc hcell fin hcd) hd
theorem zh_ {i j pos}:PE X (.Constant (.int i) j pos) (tC (.int i)):=fun _ _ _ H _ I h=>wpAny_Constant_int ⟨.int i,H,I.tok _,⟨_,rfl⟩,h⟩
theorem zj4_ {b j pos}:PE X (.Constant (.bool b) j pos) (tC (.bl b)):=fun _ _ _ H _ I h=>Constant_bool ⟨.bl b,H,I,rfl,h⟩
theorem zb5_ {j pos}:PE X (.Constant .none j pos) (tC .non):=fun _ _ _ H _ I h=>Constant_none ⟨.non,H,I,rfl,h⟩
theorem zlG_ {x j pos}:PE X (.Constant (.str x) j pos) (tC (.str x)):=fun _ _ _ H _ I h=>Calls.Constant_str ⟨.str x,H,I.tok _,⟨_,rfl⟩,h⟩
noncomputable def Gl (X:Cx) (x:Str):Prop:=X.env.kindOf x=some .globalImplicit
theorem ziK_ {E:Value→Shared→Prop}{pins:Pnn}{s:Shared}{σ:St}{H:Hp}{x:Str}{u:Value}{pos:Pos}{Q:Value→Shared→Prop}(I:Inv X pins σ H s) (hg:Gl X x) (hm:X.mg x=some u) (h:Q u s)
  (hd:(x == ("__debug__" : Str))=false:=by decide):wpAny (model X.prog X.w) X.A (eval (.Name x pos) X.env) Q E s :=
 Calls.Name_function_global I.ok.kind hg (Calls.loadGlobal_global (by rw [I.ok.glob]; exact I.mod.glob.keeps I.bk) hm h) hd
theorem zgV_ {E:Value→Shared→Prop}{pins:Pnn}{s:Shared}{σ:St}{H:Hp}{x:Str}{u:Value}{pos:Pos}{Q:Value→Shared→Prop}(I:Inv X pins σ H s) (hg:Gl X x) (hm:X.mg x=none) (hv:bootBuiltins x=some u) (h:Q u s)
  (hn:x ≠ "__name__" := by decide) (hd:(x == ("__debug__" : Str))=false:=by decide):wpAny (model X.prog X.w) X.A (eval (.Name x pos) X.env) Q E s:=by
 obtain ⟨mb,h1,h2⟩:=I.mod.blt
 exact Calls.Name_function_global I.ok.kind hg (Calls.loadGlobal_builtin (by rw [I.ok.glob]; exact I.mod.glob.keeps I.bk) hm (by rw [I.ok.blt]; exact h1.keeps I.bk) ((h2 x hn).trans hv) h) hd
theorem zkF_ {x:Str}{v:V}{u:Value}{pos:Pos}(hg:Gl X x) (hm:X.mg x=some u) (r:RelV v u) (hd:(x == ("__debug__" : Str))=false:=by decide):PE X (.Name x pos) (tC v) :=
 fun _ _ _ H _ I h=>ziK_ I hg hm ⟨v,H,I,r,h⟩ hd
theorem zj9_ {x:Str}{v:V}{u:Value}{pos:Pos}(hg:Gl X x) (hm:X.mg x=none) (hv:bootBuiltins x=some u) (r:RelV v u) (hn:x ≠ "__name__" := by decide) (hd:(x == ("__debug__" : Str))=false:=by decide):PE X (.Name x pos) (tC v) :=
 fun _ _ _ H _ I h=>zgV_ I hg hm hv ⟨v,H,I,r,h⟩ hn hd
variable {a b:Expr}{ta tb:TE}{pos:Pos}
noncomputable def PC (X:Cx) (op:CmpOp) (a b:Expr) (t:TE):Prop :=
 ∀ (pins:Pnn) (s:Shared) (σ:St) (H:Hp) (Q:VK),Inv X pins σ H s→t σ H Q →
  wpAny (model X.prog X.w) X.A (eval a X.env) (fun v s₁=>wpAny (model X.prog X.w) X.A (eval b X.env) (fun u s₂=>wpAny (model X.prog X.w) X.A (compareOp op v u) (EP X pins σ Q) X.xe s₂) X.xe s₁) X.xe s
theorem nobehind (b:Expr) {op:CmpOp}(h:op≠.In) (h2:op≠.NotIn):behindInMarks op b=false:=by
 have e1:(op == CmpOp.In)=false:=by cases op<;>first | rfl | exact absurd rfl h
 have e2:(op == CmpOp.NotIn)=false:=by cases op<;>first | rfl | exact absurd rfl h2
 cases b<;>simp [behindInMarks,e1,e2]
variable {tA tB':TT}{rest:List Expr}
noncomputable def tNot (t:TT):TT:=fun σ H Q=>t σ H fun c H1=>Q (!c) H1
theorem zdl_ (ha:PT X a tA):PW X (.BoolOp .And [a] pos) tA:=by
 intro wh pins s σ H Q I h
 refine isTrue_and (thn (ha pins s σ H Q I h) fun c s1 e=>?_)
 cases c with
 | true=>exact isTrue_and_nil e
 | false=>exact e
theorem zjj_ (ha:PT X a tA):PW X (.BoolOp .Or [a] pos) tA:=by
 intro wh pins s σ H Q I h
 refine isTrue_or (thn (ha pins s σ H Q I h) fun c s1 e=>?_)
 cases c with
 | false=>exact isTrue_or_nil e
 | true=>exact e
theorem zhE_ (ha:PT X a tA):PT X (.UnaryOp .Not a pos) (tNot tA):=by
 intro pins s σ H Q I h
 exact isTrue_not (ha pins s σ H (fun c H1=>Q (!c) H1) I h)
theorem zkV_ {op} {t:TE}(h:PE X a t):PE X (.BoolOp op [a] pos) t:=fun pins s σ H Q I hw=>BoolOp_one (h pins s σ H Q I hw)
end
end L2
namespace L2
open PySem PySem.Spec PyProof.Rows
noncomputable def SqL (K:Fgg) (H:Hp) (a:Addr) (xs:List V):Prop :=
 Rd H a (.lst xs) ∨
  ∃ (o:Obj) (its:Array Value) (n:Nat),K.lookup a=some o∧o.cls=.type "list" ∧ o.dict=none∧o.data=.seq its n∧its.size≤sizeLine∧Vals xs its.toList
noncomputable def SqT (K:Fgg) (H:Hp) (a:Addr) (xs:List V):Prop :=
 Rd H a (.tup xs) ∨
  ∃ (o:Obj) (its:Array Value) (n:Nat),K.lookup a=some o∧o.cls=.type "tuple" ∧ o.data=.seq its n∧its.size≤sizeLine∧Vals xs its.toList
noncomputable def absV:Value→Option V
 | .none=>some .non
 | .bool b=>some (.bl b)
 | .int i _=>some (.int i)
 | .str x _=>some (.str x)
 | .bytes b _=>some (.byt b)
 | .float b _=>some (.flt b)
 | .ref a=>some (.ref a)
 | .type n=>some (.ty n)
 | _=>none
theorem RelV.abs {x:V}{u:Value}(r:RelV x u):absV u=some x:=by
 cases x with
 | non=>cases r; rfl
 | bl _=>cases r; rfl
 | int _=>obtain ⟨t,rfl⟩:=r; rfl
 | str _=>obtain ⟨t,rfl⟩:=r; rfl
 | byt _=>obtain ⟨t,rfl⟩:=r; rfl
 | flt _=>obtain ⟨t,rfl⟩:=r; rfl
 | ref _=>cases r; rfl
 | ty _=>cases r; rfl
theorem RelV.inj {x y:V}{u:Value}(r:RelV x u) (q:RelV y u):x=y:=Option.some.inj (r.abs.symm.trans q.abs)
theorem Vals.inj:∀ {xs ys:List V}{us:List Value},Vals xs us→Vals ys us→xs=ys
 | _,_,_,.nil,.nil=>rfl
 | _,_,_,.cons r t,.cons r' t'=>by rw [r.inj r',Vals.inj t t']
section
variable {X:Cx}{pins:Pnn}{σ:St}{H:Hp}{s:Shared}{a:Addr}{xs ys:List V}
theorem SqL.of {K:Fgg}(h:H a=some (.lst xs)):SqL K H a xs:=.inl (.inl h)
theorem SqT.of {K:Fgg}(h:H a=some (.tup xs)):SqT K H a xs:=.inl (.inl h)
theorem Inv.list (I:Inv X pins σ H s) (h:SqL X.K H a xs):∃ its:List Value,Vals xs its∧PlainL s.heap a its.toArray∧xs.length≤sizeLine:=by
 rcases h with h | ⟨o,its,n,hk,hc,hd,hs,hz,r⟩
 ·obtain ⟨z,its,n,r,e⟩:=h.ok I.hok
  exact ⟨its,r,⟨_,n,e,rfl,rfl,rfl⟩,z⟩
 ·refine ⟨its.toList,r,⟨o,n,I.kIn a o hk,hc,hd,by simpa using hs⟩,?_⟩
  have e:=r.length
  simp only [Array.length_toList] at e
  lia
theorem Inv.tuple (I:Inv X pins σ H s) (h:SqT X.K H a xs):∃ its:List Value,Vals xs its∧IsTup s.heap a its.toArray∧xs.length≤sizeLine:=by
 rcases h with h | ⟨o,its,n,hk,hc,hs,hz,r⟩
 ·obtain ⟨z,its,r,p⟩:=h.ok I.hok
  exact ⟨its,r,p,z⟩
 ·refine ⟨its.toList,r,⟨o,I.kIn a o hk,hc,n,by simpa using hs⟩,?_⟩
  have e:=r.length
  simp only [Array.length_toList] at e
  lia
theorem Inv.list_inj (I:Inv X pins σ H s) (h:SqL X.K H a xs) (h':SqL X.K H a ys):xs=ys:=by
 obtain ⟨its,r,⟨o,n,e,_,_,d⟩,_⟩:=I.list h
 obtain ⟨its',r',⟨o',n',e',_,_,d'⟩,_⟩:=I.list h'
 rw [e] at e'; cases e'
 rw [d] at d'
 injection d' with d1 _
 have:its=its':=by simpa using congrArg Array.toList d1
 subst this
 exact r.inj r'
theorem Inv.tuple_inj (I:Inv X pins σ H s) (h:SqT X.K H a xs) (h':SqT X.K H a ys):xs=ys:=by
 obtain ⟨its,r,⟨o,e,_,n,d⟩,_⟩:=I.tuple h
 obtain ⟨its',r',⟨o',e',_,n',d'⟩,_⟩:=I.tuple h'
 rw [e] at e'; cases e'
 rw [d] at d'
 injection d' with d1 _
 have:its=its':=by simpa using congrArg Array.toList d1
 subst this
 exact r.inj r'
end
noncomputable abbrev Cx.wish (X:Cx) (E:Value→Shared→Prop):Cx:={ X with xe:=E }
noncomputable abbrev Cx.nox (X:Cx):Cx:=X.wish fun _ _=>False
theorem Cx.Ok.wish {X:Cx}(ok:X.Ok) (E:Value→Shared→Prop):(X.wish E).Ok :=
 ⟨ok.mod,ok.kind,ok.glob,ok.blt,ok.above,ok.inj,ok.has,ok.cab,ok.hd,ok.frames,ok.stk,ok.exf,ok.bs,ok.bsz,ok.noex,ok.exfs,ok.funs,ok.frf⟩
theorem Cx.Ok.unwish {X:Cx}{E:Value→Shared→Prop}(ok:(X.wish E).Ok):X.Ok :=
 ⟨ok.mod,ok.kind,ok.glob,ok.blt,ok.above,ok.inj,ok.has,ok.cab,ok.hd,ok.frames,ok.stk,ok.exf,ok.bs,ok.bsz,ok.noex,ok.exfs,ok.funs,ok.frf⟩
section
variable {X:Cx}{pins:Pnn}{σ:St}{H:Hp}{s:Shared}{E:Value→Shared→Prop}
theorem Inv.wish (I:Inv X pins σ H s) (E:Value→Shared→Prop):Inv (X.wish E) pins σ H s:=⟨I.ok.wish E,I.os,I.bare,I.base,I.loc,I.cell,I.free,I.freeC,I.pin,I.hok,I.len⟩
theorem Inv.unwish (I:Inv (X.wish E) pins σ H s):Inv X pins σ H s:=⟨I.ok.unwish,I.os,I.bare,I.base,I.loc,I.cell,I.free,I.freeC,I.pin,I.hok,I.len⟩
theorem SP.unwish {D:Ends}{f:Flow}{s':Shared}(h:SP (X.wish E) pins D f s'):SP X pins D f s':=by
 cases f with
 | next=>obtain ⟨σ',H',I,q⟩:=h; exact ⟨σ',H',I.unwish,q⟩
 | brk=>obtain ⟨σ',H',I,q⟩:=h; exact ⟨σ',H',I.unwish,q⟩
 | cont=>obtain ⟨σ',H',I,q⟩:=h; exact ⟨σ',H',I.unwish,q⟩
 | ret u=>obtain ⟨v,σ',H',I,r,q⟩:=h; exact ⟨v,σ',H',I.unwish,r,q⟩
theorem PSs.nox {st:List Stmt}{t:TS}(h:PSs X.nox st t):PSs X st t:=fun pins s σ H D I hw =>
 wpAny_mono (h pins s σ H D (I.wish _) hw) (fun _ _ q=>q.unwish) fun _ _ z=>False.elim z
end
section
variable {X:Cx}{st:Stmt}{rest:List Stmt}{t u:TS}{e:Expr}{te:TE}{pos:Pos}
noncomputable def tNext:TS:=fun D σ H=>D.nx σ H
noncomputable def tSeq (t u:TS):TS:=fun D σ H=>t { D with nx:=u D } σ H
theorem zD_:PSs X [] tNext:=fun _ _ σ H _ I h=>wpAny_execs_nil ⟨σ,H,I,h⟩
theorem zd_ (h1:PS X st t) (h2:PSs X rest u):PSs X (st::rest) (tSeq t u):=by
 intro pins s σ H D I h
 refine wpAny_execs_cons (thn (h1 pins s σ H { D with nx:=u D } I h) fun f s1 q=>?_)
 cases f with
 | next =>
  obtain ⟨σ',H',I',q⟩:=q
  exact h2 pins s1 σ' H' D I' q
 | ret v=>exact q
 | brk=>exact q
 | cont=>exact q
theorem zi_ (h1:PS X st t):PSs X [st] t:=by
 intro pins s σ H D I h
 refine wpAny_execs_cons (thn (h1 pins s σ H D I h) fun f s1 q=>?_)
 cases f with
 | next=>exact wpAny_execs_nil q
 | ret v=>exact q
 | brk=>exact q
 | cont=>exact q
theorem Inv.quiet {pins:Pnn}{σ:St}{H:Hp}{s:Shared}(I:Inv X pins σ H s):interactive X.env=false:=by simp [interactive,I.ok.kind]
noncomputable def tDrop (te:TE):TS:=fun D σ H=>te σ H fun _ H1=>D.nx σ H1
theorem zeo_ (he:PE X e te) (hs:swapsWith e none pos.line X.env=pure false:=by rfl):PS X (.Expr e pos) (tDrop te):=by
 intro pins s σ H D I h
 exact wpAny_Expr_any (thn (he pins s σ H _ I h) fun v s1 ⟨x,H1,I1,r1,q1⟩=>⟨σ,H1,I1,q1⟩) I.quiet hs
noncomputable def tRet (te:TE):TS:=fun D σ H=>te σ H D.rt
theorem zR_ (he:PE X e te):PS X (.Return (some e) pos) (tRet te):=by
 intro pins s σ H D I h
 exact wpAny_Return_some (thn (he pins s σ H _ I h) fun v s1 ⟨x,H1,I1,r1,q1⟩=>⟨x,σ,H1,I1,r1,q1⟩)
end
noncomputable abbrev TG:=V→St→Hp→(St→Hp→Prop)→Prop
noncomputable def PG (X:Cx) (target:Expr) (t:TG):Prop :=
 ∀ (pins:Pnn) (s:Shared) (σ:St) (H:Hp) (v:V) (u:Value) (Q:St→Hp→Prop),Inv X pins σ H s→RelV v u→t v σ H Q →
  wpAny (model X.prog X.w) X.A (assign target X.env u) (fun _ s'=>∃ σ' H',Inv X pins σ' H' s'∧Q σ' H') X.xe s
section
variable {X:Cx}{pos:Pos}
noncomputable def gName (i:Nat):TG:=fun v σ H Q=>Q (σ.set i (some v)) H
theorem zbg_ {i:Nat}{x:Str}(hN:X.N.Nodup) (hi:X.N[i]?=some x) (hx:Loc X.env.scope x) (hf:X.fn x=true∨X.env.scope.names.lookup x=some .local:=by first | exact .inl rfl | exact .inr rfl | assumption):PG X (.Name x pos) (gName i):=by
 intro pins s σ H v u Q I r h
 exact wpAny_assign_Name (zhB_ I hN hi hx r (fun s' I'=>⟨_,H,I',h⟩) hf)
noncomputable def tAsg (te:TE) (g:TG):TS:=fun D σ H=>te σ H fun x H1=>g x σ H1 D.nx
theorem zab_ {i:Nat}{x:Str}{e:Expr}{te:TE}{pos':Pos}(hN:X.N.Nodup) (hi:X.N[i]?=some x) (hx:Loc X.env.scope x) (he:PE X e te) (hs:swapsWith e (some (.Name x pos')) pos.line X.env=pure false:=by rfl) (hf:X.fn x=true∨X.env.scope.names.lookup x=some .local:=by first | exact .inl rfl | exact .inr rfl | assumption) :
  PS X (.Assign [.Name x pos'] e pos) (tAsg te (gName i)):=by
 intro pins s σ H D I h
 refine wpAny_Assign_Name (thn (he pins s σ H _ I h) fun v s1 ⟨y,H1,I1,r1,q1⟩=>?_) hs
 exact zhB_ I1 hN hi hx r1 (fun s2 I2=>⟨_,H1,I2,q1⟩) hf
end
section
variable {X:Cx}{pos:Pos}
noncomputable def tWhile (c:TT) (tb:TS):TS:=fun D σ H=>∃ W:Nat→St→Hp→Prop,(∃ m,W m σ H)∧∀ m σ H,W m σ H →
 c σ H fun b H1=>if b=true then ∃ N:St→Hp→Prop,(∀ σ' H',N σ' H'→∃ m',m'<m∧W m' σ' H')∧tb { D with nx:=N,ct:=N,bk:=D.nx } σ H1 else D.nx σ H1
theorem zgZ_ {c:Expr}{body:List Stmt}{tc:TT}{tb:TS}(hp:PassesOwn (model X.prog X.w) X.A X.env X.xe) (hc:PT X c tc) (hb:PSs X body tb):PS X (.While c body [] pos) (tWhile tc tb):=by
 intro pins s σ H D I h
 obtain ⟨W,⟨m0,w0⟩,turn⟩:=h
 refine wpAny_While (codeAny_whileLoop (fun n s'=>∃ σ' H',Inv X pins σ' H' s'∧W n σ' H') ?_ m0 ⟨σ,H,I,w0⟩)
 rintro n s1 ⟨σ1,H1,I1,w1⟩
 refine wpAny_passesOwn hp (thn (hc pins s1 σ1 H1 _ I1 (turn n σ1 H1 w1)) fun b s2 ⟨H2,I2,q2⟩=>?_)
 cases b with
 | true =>
  obtain ⟨N,hN,q2⟩:=q2
  rw [if_pos rfl]
  refine wpAny_passesOwn hp (thn (hb pins s2 σ1 H2 _ I2 q2) fun f s3 q3=>?_)
  cases f with
  | next =>
   obtain ⟨σ3,H3,I3,n3⟩:=q3
   obtain ⟨m',hm,w3⟩:=hN σ3 H3 n3
   exact ⟨m',hm,σ3,H3,I3,w3⟩
  | cont =>
   obtain ⟨σ3,H3,I3,n3⟩:=q3
   obtain ⟨m',hm,w3⟩:=hN σ3 H3 n3
   exact ⟨m',hm,σ3,H3,I3,w3⟩
  | brk=>exact q3
  | ret v=>exact q3
 | false =>
  rw [if_neg Bool.false_ne_true]
  exact wpAny_execs_nil ⟨σ1,H2,I2,q2⟩
end
structure It where
 go:Nat→Hp→Prop
 yld:Nat→Hp→V→Hp→Prop
 stop:Nat→Hp→Prop
noncomputable def FpOk (X:Cx) (pins:Pnn) (H:Hp) (b:Addr):Prop :=
 H b=none∧b≠X.env.locals∧b∉X.fs∧(b∈X.ex∨X.s₀.heap.objs.size≤b)∧(∀ x c,X.env.cells.lookup x=some c→c≠b)∧∀ p∈X.pn++pins,p.1≠b
theorem Inv.fpOk {X:Cx}{pins:Pnn}{σ:St}{H H':Hp}{s:Shared}{b:Addr}(I:Inv X pins σ H s) (hb:s.heap.objs.size≤b) (hn:H' b=none):FpOk X pins H' b:=by
 refine ⟨hn,Nat.ne_of_gt (Nat.lt_of_lt_of_le I.lt hb),I.nofs hb,.inr (Nat.le_trans I.sz hb),fun x c e z=>?_,fun p hp z=>?_⟩
 ·obtain ⟨v,q⟩:=I.cell x c e
  exact absurd (Nat.lt_of_lt_of_le q.lt (by rw [z]; exact hb)) (Nat.lt_irrefl _)
 ·exact absurd (Nat.lt_of_lt_of_le (Heap.lt_size (I.pin p hp).1) (by rw [z]; exact hb)) (Nat.lt_irrefl _)
structure Turn (P:Program) (w:World) (K:Fgg) (tg:Expr) (J:It) (fp:List Addr) (it:Addr) (tn:Nat→Heap→Prop):Prop where
 mem:it∈fp
 obj:∀ i h,tn i h→∀ b∈fp,∃ o,h.get? b=some o∧∀ v,o.data≠.cell v
 keep:∀ i h h',tn i h→(∀ b∈fp,∀ o,h.get? b=some o→h'.get? b=some o)→tn i h'
 item:∀ (X:Cx),X.prog=P→X.w=w→X.K=K→X.calm=true→∀ (i:Nat) (pins:Pnn) (s:Shared) (σ:St) (H:Hp) (E:Value→Shared→Prop),Inv X pins σ H s→(∀ b∈fp,FpOk X pins H b)→tn i s.heap→J.go i H →
  wpAny (model P w) X.A (pyNext (.ref it)) (fun r s1=>∃ u,r=some u ∧
   wpAny (model P w) X.A (letOwnedTupleGo tg (.ref it) u) (fun _ s2=>∃ x H',Inv X pins σ H' s2∧RelV x u∧J.yld i H x H'∧tn (i+1) s2.heap∧∀ b∈fp,H' b=none) E s1) E s
 done:∀ (X:Cx),X.prog=P→X.w=w→X.K=K→X.calm=true→∀ (i:Nat) (pins:Pnn) (s:Shared) (σ:St) (H:Hp) (E:Value→Shared→Prop),Inv X pins σ H s→(∀ b∈fp,FpOk X pins H b)→tn i s.heap→J.stop i H →
  wpAny (model P w) X.A (pyNext (.ref it)) (fun r s1=>r=none∧Inv X pins σ H s1) E s
 self:∀ (A:Around) (i:Nat) (s:Shared) (Q:Value→Shared→Prop) (E:Value→Shared→Prop),tn i s.heap→Q (.ref it) s→wpAny (model P w) A (pyIter (.ref it)) Q E s
noncomputable abbrev TI:=St→Hp→(It→Hp→Prop)→Prop
noncomputable def PIE (X:Cx) (pins:Pnn) (σ:St) (tg:Expr) (R:It→Hp→Prop) (itv:Value) (s2:Shared):Prop :=
 ∃ (it:Addr) (fp:List Addr) (tn:Nat→Heap→Prop) (J:It) (H':Hp),itv=.ref it∧Inv X pins σ H' s2∧Turn X.prog X.w X.K tg J fp it tn∧tn 0 s2.heap∧(∀ b∈fp,FpOk X pins H' b)∧R J H'
noncomputable def PI (X:Cx) (tg iter:Expr) (wi:TI):Prop :=
 ∀ (pins:Pnn) (s:Shared) (σ:St) (H:Hp) (R:It→Hp→Prop),Inv X pins σ H s→wi σ H R →
  wpAny (model X.prog X.w) X.A (eval iter X.env) (fun v s1=>wpAny (model X.prog X.w) X.A (pyIter v) (PIE X pins σ tg R) X.xe s1) X.xe s
theorem zlx_ {M:Model}{A:Around}{E:Value→Shared→Prop}{s:Shared}{tg:Expr}{it:Addr}{u:Value}{o:Obj}{n:String}{vs:Array Value}{Q:Unit→Shared→Prop}(ho:s.heap.get? it=some o) (hc:o.cls=.type n) (hd:o.data=.fields vs)
  (hn:["enumerate", "zip", "dict_itemiterator", "dict_reverseitemiterator", "odict_iterator", "itertools.zip_longest", "itertools.pairwise"].contains n=false) (hQ:Q () s):wpAny M A (letOwnedTupleGo tg (.ref it) u) Q E s:=by
 unfold letOwnedTupleGo
 cases tg<;>first
  | exact wpAny_pure hQ
  | (cases u<;>first
    | exact wpAny_pure hQ
    | (refine wpAny_bind (wpAny_load ho ?_)
       rw [hc,hd]
       show wpAny M A (if (["enumerate", "zip", "dict_itemiterator", "dict_reverseitemiterator", "odict_iterator", "itertools.zip_longest", "itertools.pairwise"].contains n && vs[0]? == some (rawInt _))=true then _ else _) Q E s
       rw [if_neg (by intro h; rw [hn,Bool.false_and] at h; cases h)]
       exact wpAny_pure hQ))
noncomputable def Itl (K:Fgg) (a:Addr):It :=
 ⟨fun i H=>∃ xs x,SqL K H a xs∧xs[i]?=some x,fun i H x H'=>H'=H∧∀ xs,SqL K H a xs→xs[i]?=some x,fun i H=>∃ xs,SqL K H a xs∧xs.length≤i⟩
noncomputable def Itt (K:Fgg) (a:Addr):It :=
 ⟨fun i H=>∃ xs x,SqT K H a xs∧xs[i]?=some x,fun i H x H'=>H'=H∧∀ xs,SqT K H a xs→xs[i]?=some x,fun i H=>∃ xs,SqT K H a xs∧xs.length≤i⟩
noncomputable def Itr (lo:Int) (n:Nat):It:=⟨fun i _=>i<n,fun i H x H'=>H'=H∧x=.int (lo+i),fun i _=>n≤i⟩
theorem zhT_ {P:Program}{w:World}{K:Fgg}{tg:Expr}(a it:Addr):Turn P w K tg (Itl K a) [it] it (fun i h=>h.IsListIter it a i) where
 mem:=by simp
 obj:=fun i h st b hb=>by
  have e:b=it:=by simpa using hb
  subst e
  obtain ⟨o,e,c,d⟩:=st
  exact ⟨o,e,fun v z=>by rw [d] at z; cases z⟩
 keep:=fun i h h' st k=>st.at fun o e=>k it (by simp) o e
 item:=by
  intro X hP hw hK hc i pins s σ H E I hf st hg
  subst hP hw hK
  obtain ⟨xs,x,hq,hx⟩:=hg
  obtain ⟨its,rv,p,hz⟩:=I.list hq
  obtain ⟨u,hu,ru⟩:=rv.get hx
  obtain ⟨f0,f1,f2,f3,f4,f5⟩:=hf it (by simp)
  refine wpAny_pyNext_list_item st p.isList (x:=u) (by simpa using hu) fun h' st' sb=>?_
  have I1:Inv X pins σ H { s with heap:=h' }:=I.turned (t':=s.toks) (fun b o hb e=>(sb.2 b hb).trans e) f0 f1 f3 f4 f5
  obtain ⟨o,e,c,d⟩:=id st'
  exact ⟨u,rfl,zlx_ (s:={ s with heap:=h' }) e c d (by decide) ⟨x,H,I1,ru,⟨rfl,fun ys hy=>by rw [I.list_inj hy hq]; exact hx⟩,st',fun b hb=>(hf b hb).1⟩⟩
 done:=by
  intro X hP hw hK hc i pins s σ H E I hf st hg
  subst hP hw hK
  obtain ⟨xs,hq,hx⟩:=hg
  obtain ⟨its,rv,p,hz⟩:=I.list hq
  obtain ⟨f0,f1,f2,f3,f4,f5⟩:=hf it (by simp)
  have hl:=rv.length
  exact wpAny_pyNext_list_end (I.ok.hd hc) st p.isList (by simp; lia) fun h' eb=>⟨rfl,I.turned (t':=s.toks) (fun b o hb e=>eb b o hb e) f0 f1 f3 f4 f5⟩
 self:=fun _ _ _ _ _ st h=>wpAny_pyIter_listiter st h
theorem zhy_ {P:Program}{w:World}{K:Fgg}{tg:Expr}(a it:Addr):Turn P w K tg (Itt K a) [it] it (fun i h=>h.IsTupleIter it a i) where
 mem:=by simp
 obj:=fun i h st b hb=>by
  have e:b=it:=by simpa using hb
  subst e
  obtain ⟨o,e,c,d⟩:=st
  exact ⟨o,e,fun v z=>by rw [d] at z; cases z⟩
 keep:=fun i h h' st k=>st.at fun o e=>k it (by simp) o e
 item:=by
  intro X hP hw hK hc i pins s σ H E I hf st hg
  subst hP hw hK
  obtain ⟨xs,x,hq,hx⟩:=hg
  obtain ⟨its,rv,p,hz⟩:=I.tuple hq
  obtain ⟨u,hu,ru⟩:=rv.get hx
  obtain ⟨f0,f1,f2,f3,f4,f5⟩:=hf it (by simp)
  refine wpAny_pyNext_tuple_item st (show s.heap.IsTuple a its.toArray from p) (x:=u) (by simpa using hu) fun h' st' sb=>?_
  have I1:Inv X pins σ H { s with heap:=h' }:=I.turned (t':=s.toks) (fun b o hb e=>(sb.2 b hb).trans e) f0 f1 f3 f4 f5
  obtain ⟨o,e,c,d⟩:=id st'
  exact ⟨u,rfl,zlx_ (s:={ s with heap:=h' }) e c d (by decide) ⟨x,H,I1,ru,⟨rfl,fun ys hy=>by rw [I.tuple_inj hy hq]; exact hx⟩,st',fun b hb=>(hf b hb).1⟩⟩
 done:=by
  intro X hP hw hK hc i pins s σ H E I hf st hg
  subst hP hw hK
  obtain ⟨xs,hq,hx⟩:=hg
  obtain ⟨its,rv,p,hz⟩:=I.tuple hq
  obtain ⟨f0,f1,f2,f3,f4,f5⟩:=hf it (by simp)
  have hl:=rv.length
  exact wpAny_pyNext_tuple_end (I.ok.hd hc) st (show s.heap.IsTuple a its.toArray from p) (by simp; lia) fun h' eb=>⟨rfl,I.turned (t':=s.toks) (fun b o hb e=>eb b o hb e) f0 f1 f3 f4 f5⟩
 self:=fun _ _ _ _ _ st h=>wpAny_pyIter_tupleiter st h
theorem zgI_ {P:Program}{w:World}{K:Fgg}{tg:Expr}(it:Addr) (lo:Int) (n:Nat):Turn P w K tg (Itr lo n) [it] it (fun i h=>IsRangeIter h it (lo+(i:Nat)*1) ((n:Int)-(i:Nat)) 1) where
 mem:=by simp
 obj:=fun i h st b hb=>by
  have e:b=it:=by simpa using hb
  subst e
  exact ⟨_,st,fun v z=>by
   have z':Data.fields _=Data.cell v:=z
   cases z'⟩
 keep:=fun i h h' st k=>k it (by simp) _ st
 item:=by
  intro X hP hw hK hc i pins s σ H E I hf st hg
  subst hP hw hK
  obtain ⟨f0,f1,f2,f3,f4,f5⟩:=hf it (by simp)
  have W:=Walks.range (prog:=X.prog) (w:=X.w) (I.ok.hd hc) it lo 1 n
  refine W.item i s _ _ hg st fun v h' tk hv st' kk=>?_
  obtain ⟨t,rfl⟩:=hv
  have I1:Inv X pins σ H { s with heap:=h',toks:=tk }:=I.turned (fun b o hb e=>kk b o (by simpa using hb) e) f0 f1 f3 f4 f5
  refine ⟨_,rfl,zlx_ (s:={ s with heap:=h',toks:=tk }) (n := "range_iterator") st' rfl rfl (by decide) ⟨.int (lo+i),H,I1,⟨t,?_⟩,⟨rfl,rfl⟩,st',fun b hb=>(hf b hb).1⟩⟩
  rw [Int.mul_one]
 done:=by
  intro X hP hw hK hc i pins s σ H E I hf st hg
  subst hP hw hK
  obtain ⟨f0,f1,f2,f3,f4,f5⟩:=hf it (by simp)
  exact wpAny_pyNext_range_end (I.ok.hd hc) st (by have:n≤i:=hg; lia) fun h' eb=>⟨rfl,I.turned (t':=s.toks) (fun b o hb e=>eb b o hb e) f0 f1 f3 f4 f5⟩
 self:=fun _ _ _ _ _ st h=>wpAny_pyIter_rangeiter st h
end L2
namespace L2
open PySem PySem.Spec PyProof.Rows
section
variable {X:Cx}{tg:Expr}
theorem zjO_ {pins:Pnn}{σ:St}{H:Hp}{s:Shared}{R:It→Hp→Prop}{E:Value→Shared→Prop}{lo hi:Int}{t u v:Tok}{tk:Nat}(I:Inv X pins σ H s) (h1 : -(2 ^ 62)≤lo) (h2:lo<2 ^ 62) (h3 : -(2 ^ 62)≤hi) (h4:hi<2 ^ 62)
  (q:R (Itr lo (hi-lo).toNat) H):wpAny (model X.prog X.w) X.A (pyIter (.ref s.heap.objs.size)) (PIE X pins σ tg R) E { s with heap:=s.heap.push { cls:=.type "range",data:=.fields #[.int lo t,.int hi u,.int 1 v] },toks:=tk }:=by
 refine wpAny_pyIter_range (IsRange.new ..) (small_one h1 h2 h3 h4) ?_
 have I1:Inv X pins σ H { s with heap:=s.heap.push { cls:=.type "range",data:=.fields #[.int lo t,.int hi u,.int 1 v] },toks:=tk }:=I.kept fun b o e=>Heap.get?_push_of_some _ e
 refine ⟨(s.heap.push { cls:=.type "range",data:=.fields #[.int lo t,.int hi u,.int 1 v] }).objs.size,[(s.heap.push { cls:=.type "range",data:=.fields #[.int lo t,.int hi u,.int 1 v] }).objs.size],_,_,H,rfl,
  I1.kept (t':=tk) fun b o e=>Heap.get?_push_of_some _ e,zgI_ _ lo (hi-lo).toNat,?_,fun b hb=>?_,q⟩
 ·have e1:lo+((0:Nat):Int)*1=lo:=by simp
  have e2:(((hi-lo).toNat:Nat):Int)-((0:Nat):Int)=Builtin.Range.rangeSize lo hi 1:=by rw [rangeSize_one]; split<;>lia
  show IsRangeIter _ _ (lo+((0:Nat):Int)*1) ((((hi-lo).toNat:Nat):Int)-((0:Nat):Int)) 1
  rw [e1,e2]
  exact Heap.get?_push_size _ rfl
 ·have e:b=(s.heap.push { cls:=.type "range",data:=.fields #[.int lo t,.int hi u,.int 1 v] }).objs.size:=by simpa using hb
  subst e
  exact I1.fpOk (Nat.le_refl _) (I1.hok.fresh (Nat.le_refl _))
noncomputable def tFor (wi:TI) (g:TG) (tb:TS):TS:=fun D σ H=>wi σ H fun J H1=>∃ W:Nat→Nat→St→Hp→Prop,(∃ m,W 0 m σ H1)∧∀ i m σ H,W i m σ H →
 (J.stop i H∧D.nx σ H)∨(J.go i H∧∃ N:St→Hp→Prop,(∀ σ' H',N σ' H'→∃ m',m'<m∧W (i+1) m' σ' H')∧∀ x H',J.yld i H x H'→g x σ H' fun σ2 H2=>tb { D with nx:=N,ct:=N,bk:=D.nx } σ2 H2)
noncomputable def pinsAt (fp:List Addr) (h:Heap):Pnn:=fp.filterMap fun b=>(h.get? b).map fun o=>(b,o)
theorem zcn_ {fp:List Addr}{h:Heap}{b:Addr}{o:Obj}(hb:b∈fp) (e:h.get? b=some o):(b,o)∈pinsAt fp h:=List.mem_filterMap.mpr ⟨b,hb,by rw [e]; rfl⟩
theorem zix_ {fp:List Addr}{h:Heap}{p:Addr×Obj}(hp:p∈pinsAt fp h):p.1∈fp∧h.get? p.1=some p.2:=by
 obtain ⟨b,hb,e⟩:=List.mem_filterMap.mp hp
 cases q:h.get? b with
 | none=>rw [q] at e; cases e
 | some o =>
  rw [q] at e
  have e':(b,o)=p:=Option.some.inj e
  subst e'
  exact ⟨hb,q⟩
theorem Inv.pinned {pins:Pnn}{σ:St}{H:Hp}{s:Shared}{fp:List Addr}(I:Inv X pins σ H s) (hf:∀ b∈fp,FpOk X pins H b) (ho:∀ b∈fp,∃ o,s.heap.get? b=some o∧∀ v,o.data≠.cell v):Inv X (pins++pinsAt fp s.heap) σ H s :=
 I.pins_of fun p hp=>(List.mem_append.mp hp).elim (fun z=>I.pin p (List.mem_append_right _ z)) fun z=>by
  obtain ⟨hb,e⟩:=zix_ z
  obtain ⟨f0,f1,f2,_⟩:=hf p.1 hb
  obtain ⟨o,e',d⟩:=ho p.1 hb
  rw [e] at e'; cases e'
  exact ⟨e,f0,f1,f2,d⟩
theorem Inv.unpinned {pins pl:Pnn}{σ:St}{H:Hp}{s:Shared}(I:Inv X (pins++pl) σ H s):Inv X pins σ H s:=I.pins_of fun p hp=>I.pin p (List.mem_append_right _ (List.mem_append_left _ hp))
theorem zds_ {iter:Expr}{body:List Stmt}{wi:TI}{g:TG}{tb:TS}{pos:Pos}(hp:PassesOwn (model X.prog X.w) X.A X.env X.xe) (hc:X.calm=true) (hi:PI X tg iter wi) (hg:PG X tg g) (hb:PSs X body tb)
  (hs:∀ x,foldedSetIterable iter X.env x=pure x:=by intro _; rfl):PS X (.For tg iter body [] pos) (tFor wi g tb):=by
 intro pins s σ H D I h
 refine wpAny_For (thn (hi pins s σ H _ I h) fun v s1 h1=>thn h1 fun itv s2 h2=>?_) hs
 obtain ⟨it,fp,tn,J,H2,e,I2,T,st2,f2,W,⟨m0,w0⟩,turn⟩:=h2
 subst e
 have stat:∀ {H':Hp},(∀ b∈fp,H' b=none)→∀ b∈fp,FpOk X pins H' b:=fun hn b hb=>⟨hn b hb,(f2 b hb).2⟩
 refine codeAny_forLoop_any (fun n s'=>∃ i σ' H',Inv X pins σ' H' s'∧tn i s'.heap∧(∀ b∈fp,H' b=none)∧W i n σ' H') ?_ m0 ⟨0,σ,H2,I2,st2,fun b hb=>(f2 b hb).1,w0⟩
 rintro n s3 ⟨i,σ3,H3,I3,st3,fr3,w3⟩
 rcases turn i n σ3 H3 w3 with ⟨stop,qn⟩ | ⟨go,N,hN,step⟩
 ·refine wpAny_passesOwn hp (thn (T.done X rfl rfl rfl hc i pins s3 σ3 H3 X.xe I3 (stat fr3) st3 stop) fun r s4 ⟨hr,I4⟩=>?_)
  subst hr
  exact wpAny_execs_nil ⟨σ3,H3,I4,qn⟩
 ·refine wpAny_passesOwn hp (thn (T.item X rfl rfl rfl hc i pins s3 σ3 H3 X.xe I3 (stat fr3) st3 go) fun r s4 ⟨u,hr,h4⟩=>?_)
  subst hr
  refine wpAny_passesOwn hp (thn h4 fun _ s5 ⟨x,H5,I5,r5,y5,st5,fr5⟩=>?_)
  have I5':=I5.pinned (stat fr5) (T.obj _ _ st5)
  refine wpAny_passesOwn hp (thn (hg _ s5 σ3 H5 x u _ I5' r5 (step x H5 y5)) fun _ s6 ⟨σ6,H6,I6,q6⟩=>?_)
  refine wpAny_passesOwn hp (thn (hb _ s6 σ6 H6 _ I6 q6) fun f s7 q7=>?_)
  have again:∀ {σ7:St}{H7:Hp},Inv X (pins++pinsAt fp s5.heap) σ7 H7 s7→N σ7 H7→∃ m,m<n∧∃ i σ' H',Inv X pins σ' H' s7∧tn i s7.heap∧(∀ b∈fp,H' b=none)∧W i m σ' H':=fun {σ7 H7} I7 n7=>by
   obtain ⟨m',hm,w7⟩:=hN σ7 H7 n7
   refine ⟨m',hm,i+1,σ7,H7,I7.unpinned,T.keep _ _ _ st5 fun b hb o e=>(I7.pin (b,o) (List.mem_append_right _ (List.mem_append_right _ (zcn_ hb e)))).1,fun b hb=>?_,w7⟩
   obtain ⟨o,e,d⟩:=T.obj _ _ st5 b hb
   exact (I7.pin (b,o) (List.mem_append_right _ (List.mem_append_right _ (zcn_ hb e)))).2.1
  cases f with
  | next=>obtain ⟨σ7,H7,I7,n7⟩:=q7; exact again I7 n7
  | cont=>obtain ⟨σ7,H7,I7,n7⟩:=q7; exact again I7 n7
  | brk=>obtain ⟨σ7,H7,I7,q7⟩:=q7; exact ⟨σ7,H7,I7.unpinned,q7⟩
  | ret v=>obtain ⟨x7,σ7,H7,I7,r7,q7⟩:=q7; exact ⟨x7,σ7,H7,I7.unpinned,r7,q7⟩
end
end L2
namespace L2
open PySem PySem.Spec PyProof.Rows
noncomputable abbrev R2:=V→V→Hp→VK→Prop
noncomputable def OpR (X:Cx) (f:Value→Value→Sem Value) (r:R2):Prop :=
 ∀ (pins:Pnn) (s:Shared) (σ:St) (H:Hp) (x y:V) (v u:Value) (Q:VK),Inv X pins σ H s→RelV x v→RelV y u→r x y H Q →
  wpAny (model X.prog X.w) X.A (f v u) (EP X pins σ Q) X.xe s
noncomputable def UnR (X:Cx) (f:Value→Sem Value) (r:V→Hp→VK→Prop):Prop :=
 ∀ (pins:Pnn) (s:Shared) (σ:St) (H:Hp) (x:V) (v:Value) (Q:VK),Inv X pins σ H s→RelV x v→r x H Q →
  wpAny (model X.prog X.w) X.A (f v) (EP X pins σ Q) X.xe s
noncomputable def CallR (X:Cx) (f:Value) (r:List V→Hp→VK→Prop):Prop :=
 ∀ (pins:Pnn) (s:Shared) (σ:St) (H:Hp) (xs:List V) (us:List Value) (Q:VK),Inv X pins σ H s→Vals xs us→r xs H Q →
  wpAny (model X.prog X.w) X.A (call f us) (EP X pins σ Q) X.xe s
noncomputable def tOp (r:R2) (ta tb:TE):TE:=fun σ H Q=>ta σ H fun x H1=>tb σ H1 fun y H2=>r x y H2 Q
noncomputable def rI (C:Int→Int→Prop) (g:Int→Int→V):R2:=fun x y H Q=>∃ i j,x=.int i∧y=.int j∧C i j∧Q (g i j) H
noncomputable def rI0 (g:Int→Int→V):R2:=fun x y H Q=>∃ i j,x=.int i∧y=.int j∧Q (g i j) H
noncomputable def rU (g:Int→V):V→Hp→VK→Prop:=fun x H Q=>∃ i,x=.int i∧Q (g i) H
section
variable {X:Cx}{a b c:Expr}{ta tb tc:TE}{pos:Pos}
theorem binT (ha:PE X a ta) (hb:PE X b tb) {pins:Pnn}{s:Shared}{σ:St}{H:Hp}{R:V→V→Hp→Prop}(I:Inv X pins σ H s)
  (h:ta σ H fun x H1=>tb σ H1 fun y H2=>R x y H2) {Q:Value→Shared→Prop}{f:Value→Value→Sem Value}
  (hf:∀ v u s2 x y H2,Inv X pins σ H2 s2→RelV x v→RelV y u→R x y H2→wpAny (model X.prog X.w) X.A (f v u) Q X.xe s2) :
  wpAny (model X.prog X.w) X.A (eval a X.env) (fun v s₁=>wpAny (model X.prog X.w) X.A (eval b X.env) (fun u s₂=>wpAny (model X.prog X.w) X.A (f v u) Q X.xe s₂) X.xe s₁) X.xe s:=by
 refine thn (ha pins s σ H _ I h) fun v s1 ⟨x,H1,I1,r1,q1⟩=>?_
 refine thn (hb pins s1 σ H1 _ I1 q1) fun u s2 ⟨y,H2,I2,r2,q2⟩=>?_
 exact hf v u s2 x y H2 I2 r1 r2 q2
theorem zay_ {op:Operator}{r:R2}(ho:OpR X (binaryOp op) r) (ha:PE X a ta) (hb:PE X b tb):PE X (.BinOp a op b pos) (tOp r ta tb):=by
 intro pins s σ H Q I h
 exact wpAny_BinOp (binT ha hb I h fun v u s2 x y H2 I2 rx ry q=>ho pins s2 σ H2 x y v u Q I2 rx ry q)
theorem opI {f:Value→Value→Sem Value}{C:Int→Int→Prop}{g:Int→Int→Int}
  (rule:∀ (i j:Int) (t u:Tok) (s:Shared) (Q:Value→Shared→Prop) (E:Value→Shared→Prop),C i j→Q (.int (g i j) s.toks) { s with toks:=s.toks+1 }→wpAny (model X.prog X.w) X.A (f (.int i t) (.int j u)) Q E s) :
  OpR X f (rI C fun i j=>.int (g i j)):=by
 intro pins s σ H x y v u Q I rx ry h
 obtain ⟨i,j,rfl,rfl,hc,q⟩:=h
 obtain ⟨t,rfl⟩:=rx
 obtain ⟨t',rfl⟩:=ry
 exact rule i j t t' s _ _ hc ⟨.int (g i j),H,I.tok _,⟨_,rfl⟩,q⟩
theorem opI0 {f:Value→Value→Sem Value}{g:Int→Int→Int}
  (rule:∀ (i j:Int) (t u:Tok) (s:Shared) (Q:Value→Shared→Prop) (E:Value→Shared→Prop),Q (.int (g i j) s.toks) { s with toks:=s.toks+1 }→wpAny (model X.prog X.w) X.A (f (.int i t) (.int j u)) Q E s) :
  OpR X f (rI0 fun i j=>.int (g i j)):=by
 intro pins s σ H x y v u Q I rx ry h
 obtain ⟨i,j,rfl,rfl,q⟩:=h
 obtain ⟨t,rfl⟩:=rx
 obtain ⟨t',rfl⟩:=ry
 exact rule i j t t' s _ _ ⟨.int (g i j),H,I.tok _,⟨_,rfl⟩,q⟩
theorem opB0 {f:Value→Value→Sem Value}{g:Int→Int→Bool}
  (rule:∀ (i j:Int) (t u:Tok) (s:Shared) (Q:Value→Shared→Prop) (E:Value→Shared→Prop),Q (.bool (g i j)) s→wpAny (model X.prog X.w) X.A (f (.int i t) (.int j u)) Q E s) :
  OpR X f (rI0 fun i j=>.bl (g i j)):=by
 intro pins s σ H x y v u Q I rx ry h
 obtain ⟨i,j,rfl,rfl,q⟩:=h
 obtain ⟨t,rfl⟩:=rx
 obtain ⟨t',rfl⟩:=ry
 exact rule i j t t' s _ _ ⟨.bl (g i j),H,I,rfl,q⟩
noncomputable def CDiv (i j:Int):Prop:=0<j∧j<1073741824
noncomputable def CPow (i j:Int):Prop:=0≤j∧j≤1000000∧i.natAbs<2 ^ 64
noncomputable def CMul (i j:Int):Prop:=(-(2 ^ 64)<i∧i<2 ^ 64)∨(-(2 ^ 64)<j∧j<2 ^ 64)
theorem CMul.ok {i j:Int}(h:CMul i j):IntMulOk i j:=by
 rcases h with ⟨h1,h2⟩ | ⟨h1,h2⟩
 ·exact .of_left (intBits_le_64 h1 h2)
 ·exact .of_right (intBits_le_64 h1 h2)
theorem zmo_:OpR X (binaryOp .Add) (rI0 fun i j=>.int (i+j)):=opI0 fun _ _ _ _ _ _ _ q=>add_int q
theorem zlP_:OpR X (binaryOp .Sub) (rI0 fun i j=>.int (i-j)):=opI0 fun _ _ _ _ _ _ _ q=>sub_int q
theorem zmC_:OpR X (binaryOp .Mod) (rI (fun _ j=>0<j) fun i j=>.int (i % j)):=opI fun i j _ _ _ _ _ hc q=>by
 have h1:(0:Int)<j:=hc
 exact mod_int' (by lia) (by rw [Int.fmod_eq_emod_of_nonneg i (by lia)]; exact q)
theorem unI {f:Value→Sem Value}{g:Int→Int}
  (rule:∀ (i:Int) (t:Tok) (s:Shared) (Q:Value→Shared→Prop) (E:Value→Shared→Prop),Q (.int (g i) s.toks) { s with toks:=s.toks+1 }→wpAny (model X.prog X.w) X.A (f (.int i t)) Q E s) :
  UnR X f (rU fun i=>.int (g i)):=by
 intro pins s σ H x v Q I rx h
 obtain ⟨i,rfl,q⟩:=h
 obtain ⟨t,rfl⟩:=rx
 exact rule i t s _ _ ⟨.int (g i),H,I.tok _,⟨_,rfl⟩,q⟩
theorem zlZ_:UnR X (unaryOp .USub) (rU fun i=>.int (-i)):=unI fun _ _ _ _ _ q=>neg_int q
end
noncomputable def scal:V→V→Bool
 | .non,.non=>true | .non,.int _=>true | .int _,.non=>true | .non,.bl _=>true | .bl _,.non=>true | .non,.str _=>true | .str _,.non=>true
 | .int _,.int _=>true | .bl _,.bl _=>true | .str _,.str _=>true | .byt _,.byt _=>true
 | .int _,.str _=>true | .str _,.int _=>true | .bl _,.str _=>true | .str _,.bl _=>true
 | _,_=>false
noncomputable def rEq:R2:=fun x y H Q=>scal x y=true∧Q (.bl (decide (x=y))) H
noncomputable def rNe:R2:=fun x y H Q=>scal x y=true∧Q (.bl (!decide (x=y))) H
theorem ziY_ {i j:Int}:decide (V.int i=V.int j)=(i == j):=by
 rw [Bool.eq_iff_iff]
 simp
theorem zlA_ {i j:Bool}:decide (V.bl i=V.bl j)=(i == j):=by
 rw [Bool.eq_iff_iff]
 simp
theorem ziJ_ {i j:Str}:decide (V.str i=V.str j)=(i == j):=by
 rw [Bool.eq_iff_iff]
 simp
theorem ziS_ {i j:Array UInt8}:decide (V.byt i=V.byt j)=(i.toList == j.toList):=by
 rw [Bool.eq_iff_iff]
 cases i
 cases j
 simp
section
variable {X:Cx}{a b c:Expr}{ta tb tc:TE}{pos:Pos}
theorem zao_ {pins:Pnn}{σ:St}{H:Hp}{s:Shared}{Q:VK}{k k':Bool}(I:Inv X pins σ H s) (q:Q (.bl k) H) (e:k=k'):EP X pins σ Q (.bool k') s:=by
 subst e
 exact ⟨.bl k,H,I,rfl,q⟩
theorem op_eq:OpR X (compareOp .Eq) rEq:=by
 intro pins s σ H x y v u Q I rx ry h
 obtain ⟨hs,q⟩:=h
 cases x with
 | non =>
  cases rx
  cases y with
  | non=>cases ry; exact PySem.EqNone.eq_none_none (zao_ I q (by simp))
  | bl j=>cases ry; exact PySem.EqNone.eq_none_bool (zao_ I q (by simp))
  | int j=>obtain ⟨t',rfl⟩:=ry; exact PySem.EqNone.eq_none_int (zao_ I q (by simp))
  | str j=>obtain ⟨t',rfl⟩:=ry; exact PySem.EqNone.eq_none_str (zao_ I q (by simp))
  | _=>exact absurd (show false=true from hs) Bool.false_ne_true
 | bl i =>
  cases rx
  cases y with
  | non=>cases ry; exact PySem.EqNone.eq_bool_none (zao_ I q (by simp))
  | bl j=>cases ry; exact eq_bool (zao_ I q zlA_)
  | str j=>obtain ⟨t',rfl⟩:=ry; exact PySem.EqMixed.eq_bool_str (zao_ I q (by simp))
  | _=>exact absurd (show false=true from hs) Bool.false_ne_true
 | int i =>
  obtain ⟨t,rfl⟩:=rx
  cases y with
  | non=>cases ry; exact PySem.EqNone.eq_int_none (zao_ I q (by simp))
  | int j=>obtain ⟨t',rfl⟩:=ry; exact eq_int (zao_ I q ziY_)
  | str j=>obtain ⟨t',rfl⟩:=ry; exact PySem.EqMixed.eq_int_str (zao_ I q (by simp))
  | _=>exact absurd (show false=true from hs) Bool.false_ne_true
 | str i =>
  obtain ⟨t,rfl⟩:=rx
  cases y with
  | non=>cases ry; exact PySem.EqNone.eq_str_none (zao_ I q (by simp))
  | bl j=>cases ry; exact PySem.EqMixed.eq_str_bool (zao_ I q (by simp))
  | int j=>obtain ⟨t',rfl⟩:=ry; exact PySem.EqMixed.eq_str_int (zao_ I q (by simp))
  | str j=>obtain ⟨t',rfl⟩:=ry; exact eq_str (zao_ I q ziJ_)
  | _=>exact absurd (show false=true from hs) Bool.false_ne_true
 | byt i =>
  obtain ⟨t,rfl⟩:=rx
  cases y with
  | byt j=>obtain ⟨t',rfl⟩:=ry; exact PySem.W.eq_bytes (zao_ I q ziS_)
  | _=>exact absurd (show false=true from hs) Bool.false_ne_true
 | _=>cases y<;>exact absurd (show false=true from hs) Bool.false_ne_true
theorem op_ne:OpR X (compareOp .NotEq) rNe:=by
 intro pins s σ H x y v u Q I rx ry h
 obtain ⟨hs,q⟩:=h
 cases x with
 | non =>
  cases rx
  cases y with
  | non=>cases ry; exact PySem.EqNone.ne_none_none (zao_ I q (by simp))
  | bl j=>cases ry; exact PySem.EqNone.ne_none_bool (zao_ I q (by simp))
  | int j=>obtain ⟨t',rfl⟩:=ry; exact PySem.EqNone.ne_none_int (zao_ I q (by simp))
  | str j=>obtain ⟨t',rfl⟩:=ry; exact PySem.EqNone.ne_none_str (zao_ I q (by simp))
  | _=>exact absurd (show false=true from hs) Bool.false_ne_true
 | bl i =>
  cases rx
  cases y with
  | non=>cases ry; exact PySem.EqNone.ne_bool_none (zao_ I q (by simp))
  | bl j=>cases ry; exact ne_bool (zao_ I q (congrArg not zlA_))
  | str j=>obtain ⟨t',rfl⟩:=ry; exact PySem.EqMixed.ne_bool_str (zao_ I q (by simp))
  | _=>exact absurd (show false=true from hs) Bool.false_ne_true
 | int i =>
  obtain ⟨t,rfl⟩:=rx
  cases y with
  | non=>cases ry; exact PySem.EqNone.ne_int_none (zao_ I q (by simp))
  | int j=>obtain ⟨t',rfl⟩:=ry; exact ne_int (zao_ I q (congrArg not ziY_))
  | str j=>obtain ⟨t',rfl⟩:=ry; exact PySem.EqMixed.ne_int_str (zao_ I q (by simp))
  | _=>exact absurd (show false=true from hs) Bool.false_ne_true
 | str i =>
  obtain ⟨t,rfl⟩:=rx
  cases y with
  | non=>cases ry; exact PySem.EqNone.ne_str_none (zao_ I q (by simp))
  | bl j=>cases ry; exact PySem.EqMixed.ne_str_bool (zao_ I q (by simp))
  | int j=>obtain ⟨t',rfl⟩:=ry; exact PySem.EqMixed.ne_str_int (zao_ I q (by simp))
  | str j=>obtain ⟨t',rfl⟩:=ry; exact ne_str (zao_ I q (congrArg not ziJ_))
  | _=>exact absurd (show false=true from hs) Bool.false_ne_true
 | byt i =>
  obtain ⟨t,rfl⟩:=rx
  cases y with
  | byt j=>obtain ⟨t',rfl⟩:=ry; exact PySem.W.ne_bytes (zao_ I q (congrArg not ziS_))
  | _=>exact absurd (show false=true from hs) Bool.false_ne_true
 | _=>cases y<;>exact absurd (show false=true from hs) Bool.false_ne_true
theorem op_lt:OpR X (compareOp .Lt) (rI0 fun i j=>.bl (decide (i<j))):=opB0 fun _ _ _ _ _ _ _ q=>lt_int q
theorem op_gt:OpR X (compareOp .Gt) (rI0 fun i j=>.bl (decide (j<i))):=opB0 fun _ _ _ _ _ _ _ q=>gt_int q
theorem op_ge:OpR X (compareOp .GtE) (rI0 fun i j=>.bl (decide (j≤i))):=opB0 fun _ _ _ _ _ _ _ q=>ge_int q
theorem ziq_:OpR X (compareOp .Lt) (fun x y H Q=>∃ i j,x=.str i∧y=.str j∧Q (.bl (decide (i.cps.toList<j.cps.toList))) H):=by
 intro pins s σ H x y v u Q I rx ry h
 obtain ⟨i,j,rfl,rfl,q⟩:=h
 obtain ⟨t,rfl⟩:=rx
 obtain ⟨t',rfl⟩:=ry
 exact lt_str (zao_ I q rfl)
theorem zlL_:OpR X (compareOp .Is) (fun x y H Q=>y=.non∧Q (.bl (decide (x=.non))) H):=by
 intro pins s σ H x y v u Q I rx ry h
 obtain ⟨rfl,q⟩:=h
 cases ry
 refine is_none_gen (zao_ I q ?_)
 cases x<;>first
  | (cases rx; rfl)
  | (obtain ⟨t,rfl⟩:=rx; rfl)
theorem zfc_:OpR X (compareOp .NotIn) (fun x y H Q=>∃ i j,x=.str i∧y=.str j∧Q (.bl (!(!(Builtin.Str.occurrences j i 0 j.length 1).isEmpty))) H):=by
 intro pins s σ H x y v u Q I rx ry h
 obtain ⟨i,j,rfl,rfl,q⟩:=h
 obtain ⟨t,rfl⟩:=rx
 obtain ⟨t',rfl⟩:=ry
 exact notIn_str (zao_ I q rfl)
theorem zj8_ {op:CmpOp}{r:R2}(ho:OpR X (compareOp op) r) (ha:PE X a ta) (hb:PE X b tb) (hm:behindInMarks op b=false):PE X (.Compare a [op] [b] pos) (tOp r ta tb):=by
 intro pins s σ H Q I h
 exact wpAny_Compare1 (binT ha hb I h fun v u s2 x y H2 I2 rx ry q=>ho pins s2 σ H2 x y v u Q I2 rx ry q) hm
theorem line63:(sizeLine:Nat)<2 ^ 63:=by rw [sizeLine_eq]; decide
theorem zhh_:OpR X (binaryOp .Add) (fun x y H Q=>∃ i j,x=.str i∧y=.str j∧i.length+j.length≤sizeLine∧Q (.str (i++j)) H):=by
 intro pins s σ H x y v u Q I rx ry h
 obtain ⟨i,j,rfl,rfl,hz,q⟩:=h
 obtain ⟨t,rfl⟩:=rx
 obtain ⟨t',rfl⟩:=ry
 exact add_str (fun t' tk=>⟨.str (i++j),H,I.tok _,⟨_,rfl⟩,q⟩) hz
theorem vals1 {x:V}{us:List Value}(r:Vals [x] us):∃ u,us=[u]∧RelV x u:=by
 cases r with
 | cons r1 r2=>cases r2; exact ⟨_,rfl,r1⟩
theorem vals2 {x y:V}{us:List Value}(r:Vals [x,y] us):∃ u w',us=[u,w']∧RelV x u∧RelV y w':=by
 cases r with
 | cons r1 r2 =>
  cases r2 with
  | cons r3 r4=>cases r4; exact ⟨_,_,rfl,r1,r3⟩
theorem zis_ (hc:X.calm=true):CallR X (.builtin "min") (fun xs H Q=>∃ i j,xs=[.int i,.int j]∧Q (.int (if j<i then j else i)) H):=by
 intro pins s σ H xs us Q I r h
 obtain ⟨i,j,rfl,q⟩:=h
 obtain ⟨u,w',rfl,⟨t,rfl⟩,⟨t',rfl⟩⟩:=vals2 r
 refine min_two_ints (I.ok.hd hc) fun h' tk k=>⟨_,H,I.kept k,?_,q⟩
 by_cases hj:j<i
 ·rw [if_pos hj,if_pos hj]; exact ⟨_,rfl⟩
 ·rw [if_neg hj,if_neg hj]; exact ⟨_,rfl⟩
end
end L2
namespace L2
open PySem PySem.Spec PyProof.Rows
structure ObjM (h:Heap) (x dx C:Addr) (mA:Str→Option Value):Prop where
 obj:h.get? x=some (PySem.W.instObj C dx)
 ns:h.Ns1 dx mA
 ne:dx≠x
theorem zir_ {h:Heap}{dx:Addr}{mA:Str→Option Value}(n:h.Ns1 dx mA):∃ od,h.get? dx=some od∧∀ name,PySem.W.lookIn name od=some (mA name):=by
 obtain ⟨o,es,ep,ho,hd,hk,_,hm⟩:=n
 refine ⟨o,ho,fun name=>?_⟩
 have e:=hm name
 unfold nsFind findBy at e
 rw [← Array.find?_toList] at e
 unfold PySem.W.lookIn
 rw [hd]
 dsimp only
 split
 ·rename_i y q
  rw [q] at e
  exact congrArg some e
 ·rename_i q
  rw [q] at e
  have a:es.toList.any (·.refKey)=false:=by
   rw [List.any_eq_false]
   intro y hy
   obtain ⟨z,t,hkey⟩:=hk y (Array.mem_toList_iff.mp hy)
   simp [DictEntry.refKey,hkey]
  have a':¬ es.toList.any (·.refKey)=true:=by rw [a]; exact Bool.false_ne_true
  rw [if_neg a']
  exact congrArg some e
theorem ObjM.look {h:Heap}{x dx C:Addr}{mA:Str→Option Value}(I:ObjM h x dx C mA):∃ od,PySem.W.InstAt h x (PySem.W.instObj C dx) C (some od)∧∀ name,PySem.W.lookIn name od=some (mA name) :=
 let ⟨od,ho,hl⟩:=zir_ I.ns
 ⟨od,⟨I.obj,rfl,rfl,ho⟩,hl⟩
section
variable {prog:Program}{w:World}{A:Around}{E:Value→Shared→Prop}{s:Shared}{K:Fgg}{x dx C f:Addr}{mA:Str→Option Value}{name:Str}{v:Value}
end
theorem RelO.some_of {v:V}{o:Option Value}(r:RelO (some v) o):∃ u,o=some u∧RelV v u:=by
 cases o with
 | none=>exact (show False from r).elim
 | some u=>exact ⟨u,rfl,r⟩
section
variable {P:Program}{w:World}{H H':Hp}{h h':Heap}{a C dx:Addr}{fs fs':List (Str×V)}
theorem zkN_ (hok:HOk P w H h) (e:H a=some (.ins C dx fs)):∃ mA,ObjM h a dx C mA∧(∀ f,RelO (fs.lookup f) (mA f))∧PySem.Within mA (fs.map (·.1))∧fs.length≤1000∧H dx=some (.own a):=by
 obtain ⟨d,z,ne,ob,mA,n,r,q⟩:=(show ObjOk P w H h a (.ins C dx fs) from hok a _ e)
 exact ⟨mA,⟨ob,n,ne⟩,r,q,z,d⟩
end
structure Cls (K:Fgg) (C:Addr):Prop where
 pg:PySem.W.plainGet K C Str.empty=true
 hd:PySem.W.hasDictIn K C=true
 po:PySem.W.plainOver K C=true
 sa:PySem.W.findIn K (.ref C) "__setattr__" = some (some (.builtin "object.__setattr__"))
theorem Cls.get {K:Fgg}{C:Addr}(c:Cls K C) (f:Str):PySem.W.plainGet K C f=true:=c.pg
section
variable {X:Cx}{pins:Pnn}{σ:St}{H:Hp}{s:Shared}{a C dx:Addr}{fs:List (Str×V)}{f:Str}{v:V}{A:Around}{E:Value→Shared→Prop}
end
section
variable {X:Cx}{o e value:Expr}{f:Str}{pos pos' tpos:Pos}{ta tv:TE}
end
section
variable {X:Cx}{pins:Pnn}{σ:St}{H:Hp}{s:Shared}{A:Around}{E:Value→Shared→Prop}{Q:Value→Shared→Prop}{c:Value}{b:Bool}
inductive TyOf (K:Fgg) (H:Hp):V→Value→Prop where
 | non:TyOf K H .non (.type "NoneType")
 | bl (x:Bool):TyOf K H (.bl x) (.type "bool")
 | int (i:Int):TyOf K H (.int i) (.type "int")
 | str (x:Str):TyOf K H (.str x) (.type "str")
 | flt (x:UInt64):TyOf K H (.flt x) (.type "float")
 | lst {a:Addr}{xs:List V}(e:H a=some (.lst xs)):TyOf K H (.ref a) (.type "list")
 | frz {a:Addr}{o:Obj}{xs:List V}(e:H a=some (.frz o (.lst xs))):TyOf K H (.ref a) (.type "list")
 | tup {a:Addr}{xs:List V}(e:H a=some (.tup xs)):TyOf K H (.ref a) (.type "tuple")
 | dK {a:Addr}{kvs:List (Key×V)}(e:H a=some (.dK kvs)):TyOf K H (.ref a) (.type "dict")
 | dT {a:Addr}{kvs:List (List Key×V)}(e:H a=some (.dT kvs)):TyOf K H (.ref a) (.type "dict")
 | ins {a C dx:Addr}{fs:List (Str×V)}(e:H a=some (.ins C dx fs)) (cl:Cls K C) (ha:PySem.W.findIn K (.ref C) "__class__" = some (some (.builtin "object.__class__")))
   (hn:PySem.W.specialIn K (.builtin "object.__class__") "__get__" = some (some (.builtin "getset_descriptor.__get__"))) (htk:PySem.W.takesIn K (.builtin "object.__class__")=some true)
   (hm:PySem.W.mroIn K C (.type "object")=some true):TyOf K H (.ref a) (.ref C)
theorem zh5_ {x:V}{u t:Value}(I:Inv X pins σ H s) (rx:RelV x u) (ty:TyOf X.K H x t) (e:PySem.W.kitOne X.K t c=some b) (h:∀ tk,Q (.bool b) { s with toks:=tk }) :
  wpAny (model X.prog X.w) A (call (.builtin "isinstance") [u,c]) Q E s:=by
 cases ty with
 | non=>cases (show u=Value.none from rx); exact PySem.W.kia_one PySem.W.kitx_none I.kIn True.intro e (fun z=>nomatch z) h
 | bl y=>cases (show u=Value.bool y from rx); exact PySem.W.kia_one PySem.W.kitx_bool I.kIn True.intro e (fun z=>nomatch z) h
 | int i=>obtain ⟨t,q⟩:=(show ∃ t,u=Value.int i t from rx); cases q; exact PySem.W.kia_one PySem.W.kitx_int I.kIn True.intro e (fun z=>nomatch z) h
 | str y=>obtain ⟨t,q⟩:=(show ∃ t,u=Value.str y t from rx); cases q; exact PySem.W.kia_one PySem.W.kitx_str I.kIn True.intro e (fun z=>nomatch z) h
 | flt y=>obtain ⟨t,q⟩:=(show ∃ t,u=Value.float y t from rx); cases q; exact PySem.W.kia_one PySem.W.kitx_float I.kIn True.intro e (fun z=>nomatch z) h
 | @lst a xs ea =>
  cases (show u=Value.ref a from rx)
  obtain ⟨_,_,n,_,h1⟩:=(show ObjOk X.prog X.w H s.heap a (.lst xs) from I.hok a _ ea)
  exact PySem.W.kia_one PySem.W.kitx_list I.kIn ⟨_,h1,rfl⟩ e (fun z=>nomatch z) h
 | @frz a ob xs ea =>
  cases (show u=Value.ref a from rx)
  obtain ⟨_,_,_,n,_,h1⟩:=(show ObjOk X.prog X.w H s.heap a (.frz ob (.lst xs)) from I.hok a _ ea)
  exact PySem.W.kia_one PySem.W.kitx_list I.kIn ⟨_,h1,rfl⟩ e (fun z=>nomatch z) h
 | @tup a xs ea =>
  cases (show u=Value.ref a from rx)
  obtain ⟨_,_,_,p⟩:=(show ObjOk X.prog X.w H s.heap a (.tup xs) from I.hok a _ ea)
  obtain ⟨o,h1,h2,_⟩:=p
  exact PySem.W.kia_one PySem.W.kitx_tuple I.kIn ⟨o,h1,h2⟩ e (fun z=>nomatch z) h
 | @dK a kvs ea =>
  cases (show u=Value.ref a from rx)
  obtain ⟨_,_,vs,_,p⟩:=(show ObjOk X.prog X.w H s.heap a (.dK kvs) from I.hok a _ ea)
  obtain ⟨o,es,ep,h1,h2,_⟩:=p
  exact PySem.W.kia_one PySem.W.kitx_dict I.kIn ⟨o,h1,h2.1⟩ e (fun z=>nomatch z) h
 | @dT a kvs ea =>
  cases (show u=Value.ref a from rx)
  obtain ⟨_,_,xs,_,o,es,ep,h1,h2,_⟩:=(show ObjOk X.prog X.w H s.heap a (.dT kvs) from I.hok a _ ea)
  exact PySem.W.kia_one PySem.W.kitx_dict I.kIn ⟨o,h1,h2.1⟩ e (fun z=>nomatch z) h
 | @ins a C dx fs ea cl ha hn htk hm =>
  cases (show u=Value.ref a from rx)
  obtain ⟨mA,O,_⟩:=zkN_ I.hok ea
  obtain ⟨od,J,_⟩:=O.look
  exact PySem.W.kia_one (PySem.W.kitx_own (cl.get _) cl.hd ha hn htk hm) I.kIn J e (fun z=>nomatch z) h
end
end L2
namespace L2
open PySem PySem.Spec PyProof.Rows
structure Room (k:Nat) (A:Around):Prop where
 hd:A.handled=none
 dp:A.depth+3*k+5<recursionLimit
 un:A.units+16*k+200<cLine
theorem Room.mono {j k:Nat}{A:Around}(r:Room k A) (h:j≤k):Room j A:=⟨r.hd,by have:=r.dp; lia,by have:=r.un; lia⟩
theorem Room.deeper {k:Nat}{A:Around}(r:Room (k+1) A) (env:Env):Room k (A.deeper env) :=
 ⟨r.hd,by have:=r.dp; show A.depth+1+3*k+5<_; lia,by have:=r.un; show A.units+3+16*k+200<_; lia⟩
theorem Room.depth {k:Nat}{A:Around}(r:Room k A):A.depth<recursionLimit:=by have:=r.dp; lia
theorem Room.units {k:Nat}{A:Around}(r:Room k A):A.units+64<cLine:=by have:=r.un; lia
noncomputable def tNil:TA:=fun _ H Q=>Q [] H
noncomputable def tCons (ta:TE) (tr:TA):TA:=fun σ H Q=>ta σ H fun x H1=>tr σ H1 fun xs H2=>Q (x::xs) H2
section
variable {X:Cx}{e:Expr}{es:List Expr}{te:TE}{t:TA}{pos:Pos}
theorem zj_:PA X [] tNil:=fun _ _ _ _ H Q I h=>Calls.spliced_nil ⟨[],H,I,.nil,h⟩
theorem zc_ (ha:PE X e te) (hr:PA X es t) (hs:starEach (e::es) X.env=(false,eval e X.env)::starEach es X.env:=by rfl):PA X (e::es) (tCons te t):=by
 intro pos pins s σ H Q I h
 rw [hs]
 show wpAny _ _ (spliced ((false,eval e X.env)::backTo pos (starEach es X.env))) _ _ s
 refine Calls.spliced_cons (thn (ha pins s σ H _ I h) fun u s1 ⟨x,H1,I1,r1,q1⟩=>?_)
 exact thn (hr pos pins s1 σ H1 _ I1 q1) fun us s2 ⟨xs,H2,I2,r2,q2⟩=>⟨x::xs,H2,I2,.cons r1 r2,q2⟩
noncomputable def tTup (t:TA):TE:=fun σ H Q=>t σ H fun xs H1=>xs.length≤sizeLine∧∀ p,H1 p=none→Q (.ref p) (upd H1 p (.tup xs))
noncomputable def tLst (t:TA):TE:=fun σ H Q=>t σ H fun xs H1=>xs.length≤sizeLine∧∀ p,H1 p=none→Q (.ref p) (upd H1 p (.lst xs))
theorem zew_ {x1} (h:PA X es t):PE X (.Tuple es x1 pos) (tTup t):=by
 intro pins s σ H Q I hq
 refine wpAny_Tuple_spliced (thn (h pos pins s σ H _ I hq) fun us s1 ⟨xs,H1,I1,r,z,q⟩=>⟨by rw [← r.length]; exact z,?_⟩)
 have hf:H1 s1.heap.objs.size=none:=I1.hok.fresh (Nat.le_refl _)
 refine ⟨.ref s1.heap.objs.size,upd H1 s1.heap.objs.size (.tup xs),I1.laid (t':=s1.toks) (fun b u e=>Heap.get?_push_of_some _ e) (Nat.le_refl _) ?_,rfl,q _ hf⟩
 exact ⟨z,us,r,⟨_,Heap.get?_push_size _ rfl,rfl,_,rfl⟩⟩
theorem zba_ (h:PA X es t):PE X (.List es pos) (tLst t):=by
 intro pins s σ H Q I hq
 refine wpAny_List_spliced (thn (h pos pins s σ H _ I hq) fun us s1 ⟨xs,H1,I1,r,z,q⟩=>⟨by rw [← r.length]; exact z,?_⟩)
 have hf:H1 s1.heap.objs.size=none:=I1.hok.fresh (Nat.le_refl _)
 refine ⟨.ref s1.heap.objs.size,upd H1 s1.heap.objs.size (.lst xs),I1.laid (t':=s1.toks) (fun b u e=>Heap.get?_push_of_some _ e) (Nat.le_refl _) ?_,rfl,q _ hf⟩
 exact ⟨z,us,0,r,Heap.get?_push_size _ rfl⟩
end
noncomputable abbrev Sp:=List V→Hp→VK→XK→Prop
noncomputable abbrev CXT:=List Env→Hp→Shared→XK→Value→Shared→Prop
structure Env0 (P:Program) (w:World) (K:Fgg) (mg:Str→Option Value) (base:Heap) (A:Around) (outer:List Env) (s:Shared) (H:Hp):Prop where
 frames:A.frames=some outer
 mod:Mod K mg base
 bs:∀ b o,base.get? b=some o→s.heap.get? b=some o∧H b=none
 bsz:base.objs.size≤s.heap.objs.size
 funs:s.heap.FunFrames base outer
 frf:∀ b∈frs outer,H b=none
 hok:HOk P w H s.heap
 bare:AllBare s.gens
noncomputable def CE (outer:List Env) (P:Program) (w:World) (H:Hp) (s:Shared) (Q:VK) (u:Value) (s':Shared):Prop :=
 ∃ v H',s'.os=s.os∧AllBare s'.gens∧Un (frs outer) [] H H' s.heap s'.heap∧HOk P w H' s'.heap∧RelV v u∧Q v H'
noncomputable def CR (CX:CXT) (outer:List Env) (P:Program) (w:World) (H:Hp) (s:Shared) (Q:VK) (E:XK) (r:Result) (s':Shared):Prop :=
 match r with
 | .ok (.ret u)=>CE outer P w H s Q u s'
 | .ok _=>False
 | .error e=>CX outer H s E e s'
structure FnOk (P:Program) (w:World) (K:Fgg) (mg:Str→Option Value) (base:Heap) (CX:CXT) (k:Nat) (f:Addr) (fd:FuncData) (ps:List Str) (sp:Sp):Prop where
 len:∀ vs H Q E,sp vs H Q E→vs.length=ps.length
 run:∀ (A:Around) (outer:List Env) (s:Shared) (H:Hp) (args:Args) (us:List Value) (vs:List V) (Q:VK) (E:XK),Room k A→Env0 P w K mg base A outer s H→BindsTo s fd args (ps.zip us)→Vals vs us→sp vs H Q E →
  codeAny (model P w) A (.call (.ref f) args) (CR CX outer P w H s Q E) s
section
variable {X:Cx}{pins:Pnn}{σ:St}{H:Hp}{s s':Shared}
theorem Inv.env0 (I:Inv X pins σ H s):Env0 X.prog X.w X.K X.mg X.base X.A X.stack s H :=
 ⟨I.ok.frames,I.ok.mod,I.bs,Nat.le_trans I.ok.bsz I.sz,I.stack,I.stkFree,I.hok,I.bare⟩
theorem Inv.after {Q:VK}{u:Value}(I:Inv X pins σ H s) (h:CE X.stack X.prog X.w H s Q u s'):EP X pins σ Q u s':=by
 obtain ⟨v,H',os,bare,un,hok,r,q⟩:=h
 obtain ⟨hh,g,d,t,os'⟩:=s'
 obtain rfl:os'=s.os:=os
 exact ⟨v,H',I.call (h':=hh) (g':=g) (d':=d) (t':=t) (ch:=[]) un hok bare (fun b z=>absurd z (by simp)),r,q⟩
end
noncomputable def tCall (sp:Sp) (dvs:List V) (E:XK) (t:TA):TE:=fun σ H Q=>t σ H fun vs H1=>sp (vs++dvs) H1 Q E
noncomputable def Binds (K:Fgg) (fd:FuncData) (ps:List Str) (ds:List Value):Prop :=
 ∀ (s:Shared) (us:List Value),K.In s.heap→(us++ds).length=ps.length→BindsTo s fd ⟨us,[]⟩ (ps.zip (us++ds))
theorem Binds.all {K:Fgg}{fd:FuncData}{ps:List Str}(h:∀ us:List Value,us.length=ps.length→bindArgs fd ⟨us,[]⟩=pure (ps.zip us)):Binds K fd ps []:=fun s us _ hl=>by
 rw [List.append_nil] at hl ⊢
 exact .of_eq (h us hl)
noncomputable def Passes (CX:CXT) (X:Cx) (E:XK):Prop:=∀ (pins:Pnn) (σ:St) (H:Hp) (s:Shared) (e:Value) (s':Shared),Inv X pins σ H s→CX X.stack H s E e s'→X.xe e s'
section
variable {X:Cx}{CX:CXT}{k:Nat}{f C:Addr}{fd:FuncData}{ps:List Str}{sp:Sp}{dvs:List V}{ds:List Value}{E:XK}{x m:Str}{p pos apos:Pos}{e o:Expr}{es:List Expr}{ta:TE}{t:TA}
theorem zmv_ {pins:Pnn}{σ:St}{H:Hp}{s:Shared}{Q:VK}{us:List Value}{vs:List V}(F:FnOk X.prog X.w X.K X.mg X.base CX k f fd ps sp) (hr:Room k X.A) (hb:Binds X.K fd ps ds) (hd:Vals dvs ds) (hx:Passes CX X E)
  (I:Inv X pins σ H s) (r:Vals vs us) (h:sp (vs++dvs) H Q E):wpAny (model X.prog X.w) X.A (call (.ref f) us) (EP X pins σ Q) X.xe s:=by
 have r2:Vals (vs++dvs) (us++ds):=r.append hd
 have hl:(us++ds).length=ps.length:=by rw [← r2.length]; exact F.len _ _ _ _ h
 refine wpAny_call (codeAny_mono (F.run X.A X.stack s H ⟨us,[]⟩ (us++ds) (vs++dvs) Q E hr I.env0 (hb s us I.kIn hl) r2 h) fun r s' hq=>?_)
 cases r with
 | error e=>exact hx pins σ H s e s' I hq
 | ok fl =>
  cases fl with
  | ret u=>exact I.after hq
  | next=>exact False.elim hq
  | brk=>exact False.elim hq
  | cont=>exact False.elim hq
theorem zlw_ (F:FnOk X.prog X.w X.K X.mg X.base CX k f fd ps sp) (hr:Room k X.A) (hg:Gl X x) (hm:X.mg x=some (.ref f)) (hk:PySem.W.keepIn X.K (.ref f)=true) (hb:Binds X.K fd ps ds) (hd:Vals dvs ds) (hx:Passes CX X E)
  (ha:PA X (e::es) t) (hdb:(x == ("__debug__" : Str))=false:=by decide) (he:starEach (e::es) X.env=(false,eval e X.env)::starEach es X.env:=by rfl) (hpl:(backTo pos (starEach es X.env)).any (·.1)=false:=by rfl) :
  PE X (.Call (.Name x p) (e::es) [] pos) (tCall sp dvs E t):=by
 intro pins s σ H Q I h
 refine wpAny_Call_Name_kw (ziK_ I hg hm ?_ hdb)
 refine PySem.W.callWith_K (h₀:=X.base) I.ok.mod.kin hk (thn (ha pos pins s σ H _ I h) fun us s1 ⟨vs,H1,I1,r,q⟩=>⟨I1.kIn,?_⟩) he hpl
 exact zmv_ F hr hb hd hx I1 r q
end
section
variable {X:Cx}{CX:CXT}{k:Nat}{f C:Addr}{fd:FuncData}{ps ks:List Str}{sp:Sp}{E:XK}{x m:Str}{p pos apos kpos:Pos}{e o:Expr}{es:List Expr}{kws:List Keyword}{te ta:TE}{t tk:TA}{nm:Option Str}
variable {g:List Value→List Value→List Value}{gV:List V→List V→List V}
end
structure FnScope (N P:List Str) (sc:Scope):Prop where
 kind:sc.kind=.function
 co:sc.isCoroutine=false
 gen:sc.isGenerator=false
 nd:N.Nodup
 pre:N.take P.length=P
 par:∀ x∈P,sc.names.lookup x=some .local∨sc.names.lookup x=some .cell
 nofree:∀ y∈sc.names,y.2≠.free
theorem zfU_ {kindOf:Str→Option NameKind}{x:Str}:∀ {binds:List (Str×Value)}{m:Str→Option Value},(∀ v,(x,v)∉binds)→bindL kindOf binds m x=m x
 | [],_,_=>rfl
 | (n,v)::r,m,h=>by
  unfold bindL
  rw [zfU_ fun w hw=>h w (List.mem_cons_of_mem _ hw)]
  split
  ·have:x≠n:=by rintro rfl; exact h v List.mem_cons_self
   simp [this]
  ·rfl
theorem zf0_ {kindOf:Str→Option NameKind}{x:Str}:∀ {binds:List (Str×Value)}{m:Str→Option Value},(∀ v,(x,v)∉binds)→bindC kindOf binds m x=m x
 | [],_,_=>rfl
 | (n,v)::r,m,h=>by
  unfold bindC
  rw [zf0_ fun w hw=>h w (List.mem_cons_of_mem _ hw)]
  split
  ·rfl
  ·have:x≠n:=by rintro rfl; exact h v List.mem_cons_self
   simp [this]
theorem zfD_ {kindOf:Str→Option NameKind}{x:Str}{v:Value}:∀ {P:List Str}{vs:List Value}{i:Nat}{m:Str→Option Value},P.Nodup→P[i]?=some x→vs[i]?=some v→kindOf x=some .local →
  bindL kindOf (P.zip vs) m x=some v
 | [],_,_,_,_,h,_,_=>by simp at h
 | _::_,[],_,_,_,_,h,_=>by simp at h
 | p::P,w::vs,0,m,nd,h1,h2,hk=>by
  simp at h1 h2; subst h1; subst h2
  show bindL kindOf ((p,w)::P.zip vs) m p=_
  unfold bindL
  rw [zfU_ fun v hv=>(List.nodup_cons.mp nd).1 (List.of_mem_zip hv).1,if_pos hk]
  simp
 | p::P,w::vs,i+1,m,nd,h1,h2,hk=>by
  show bindL kindOf ((p,w)::P.zip vs) m x=_
  unfold bindL
  exact zfD_ (i:=i) (List.nodup_cons.mp nd).2 (by simpa using h1) (by simpa using h2) hk
theorem zfH_ {kindOf:Str→Option NameKind}{x:Str}{v:Value}:∀ {P:List Str}{vs:List Value}{i:Nat}{m:Str→Option Value},P.Nodup→P[i]?=some x→vs[i]?=some v→kindOf x≠some .local →
  bindC kindOf (P.zip vs) m x=some v
 | [],_,_,_,_,h,_,_=>by simp at h
 | _::_,[],_,_,_,_,h,_=>by simp at h
 | p::P,w::vs,0,m,nd,h1,h2,hk=>by
  simp at h1 h2; subst h1; subst h2
  show bindC kindOf ((p,w)::P.zip vs) m p=_
  unfold bindC
  rw [zf0_ fun v hv=>(List.nodup_cons.mp nd).1 (List.of_mem_zip hv).1,if_neg hk]
  simp
 | p::P,w::vs,i+1,m,nd,h1,h2,hk=>by
  show bindC kindOf ((p,w)::P.zip vs) m x=_
  unfold bindC
  exact zfH_ (i:=i) (List.nodup_cons.mp nd).2 (by simpa using h1) (by simpa using h2) hk
noncomputable def start (N:List Str) (vs:List V):St:=vs.map some++List.replicate (N.length-vs.length) none
noncomputable def cxOf (CX:CXT) (P:Program) (w:World) (K:Fgg) (mg:Str→Option Value) (base:Heap) (N:List Str) (qual:Str) (scope:Scope) (f:Addr) (cd:Value) (A:Around) (outer:List Env) (s:Shared) (H:Hp) (E:XK):Cx where
 prog:=P
 w:=w
 K:=K
 mg:=mg
 base:=base
 A:=A.deeper (envOfC qual scope s.heap.objs.size f cd)
 N:=N
 s₀:=s
 H₀:=H
 env:=envOfC qual scope s.heap.objs.size f cd
 outer:=outer
 stack:=envOfC qual scope s.heap.objs.size f cd::outer
 ex:=[]
 calm:=true
 fn:=fun _=>true
 pn:=[]
 xe:=fun e s'=>wpAny (model P w) (A.deeper (envOfC qual scope s.heap.objs.size f cd)) (leaving (envOfC qual scope s.heap.objs.size f cd) e) (fun _ s''=>CX outer H s E e s'') (fun e' s''=>CX outer H s E e' s'') s'
theorem zhv_ {sc:Scope}{n:Nat}{x:Str}(h:sc.names.lookup x=some .cell):∃ c,(cellsFrom n sc.names []).lookup x=some c:=by
 have q:=PySem.W.cellsFrom_some sc.names n [] (.inl h)
 exact Option.isSome_iff_exists.mp q
theorem zim_ {CX:CXT}{P:Program}{w:World}{K:Fgg}{mg:Str→Option Value}{base:Heap}{N ps:List Str}{qual:Str}{scope:Scope}{f:Addr}{cd:Value}{A:Around}{outer:List Env}{s s1:Shared}{H:Hp}{E:XK}{us:List Value}{vs:List V}
  (S:FnScope N ps scope) (hd:A.handled=none) (e0:Env0 P w K mg base A outer s H) (hl:vs.length=ps.length) (r:Vals vs us)
  (x:InCallC s s.heap.objs.size (bindL (envOfC qual scope s.heap.objs.size f cd).kindOf (ps.zip us) fun _=>none) (cellsFrom (s.heap.objs.size+1) scope.names []) (bindC (envOfC qual scope s.heap.objs.size f cd).kindOf (ps.zip us) fun _=>none) s1) :
  Inv (cxOf CX P w K mg base N qual scope f cd A outer s H E) [] (start N vs) H s1:=by
 have hpl:ps.length≤N.length:=by have:=congrArg List.length S.pre; rw [List.length_take] at this; lia
 obtain ⟨h1,tk,rfl,hk⟩:=x.done
 have noA:∀ b:Addr,b∉(cxOf CX P w K mg base N qual scope f cd A outer s H E).ex:=fun b z=>absurd (show b∈([]:List Addr) from z) (by simp)
 refine ⟨⟨e0.mod,S.kind,rfl,rfl,Nat.le_refl _,fun y z c h1 h2=>?_,fun y hy=>?_,fun y c _ h=>?_,fun _=>hd,Around.frames_deeper e0.frames,.inr ⟨rfl,rfl⟩,fun b z=>absurd z (noA b),e0.bs,e0.bsz,fun b _ _=>noA b,fun b z=>absurd z (noA b),e0.funs,e0.frf⟩,
  rfl,e0.bare,Un.kept hk,⟨_,x.toInCall.ns,fun i y v h1 h2 h3=>?_⟩,fun y c h=>⟨_,x.cell y c h⟩,e0.hok.fresh (Nat.le_refl _),fun y c h=>?_,fun p hp=>absurd (show p∈([]:Pnn) from hp) (by simp),e0.hok.kept hk,?_⟩
 ·exact name_of_addr x.apart (PySem.mem_of_lookup h1) (PySem.mem_of_lookup h2)
 ·have hy:scope.names.lookup y=some .cell∨scope.names.lookup y=some .free:=hy
  rcases hy with hy | hy
  ·exact zhv_ hy
  ·exact absurd rfl (S.nofree _ (PySem.mem_of_lookup hy))
 ·exact Nat.le_of_lt (x.above y c (PySem.mem_of_lookup h))
 ·have hi:i<vs.length:=by
   unfold start at h2
   by_cases hi:i<vs.length
   ·exact hi
   ·rw [List.getElem?_append_right (by simpa using hi)] at h2
    rw [List.getElem?_replicate] at h2
    split at h2<;>cases h2
  have ha:vs[i]?=some v:=by
   unfold start at h2
   rw [List.getElem?_append_left (by simpa using hi),List.getElem?_map] at h2
   cases e:vs[i]? with
   | none=>rw [e] at h2; cases h2
   | some a=>rw [e] at h2; cases h2; rfl
  obtain ⟨u,hu,rv⟩:=r.get ha
  have hp:ps[i]?=some y:=by
   rw [← S.pre,List.getElem?_take_of_lt (by lia)]; exact h1
  have ndP:ps.Nodup:=by rw [← S.pre]; exact S.nd.sublist (List.take_sublist _ _)
  refine ⟨u,rv,?_⟩
  rcases S.par y (List.mem_of_getElem? hp) with k | k
  ·exact .inl ⟨k,zfD_ ndP hp hu k⟩
  ·obtain ⟨c,e⟩:=zhv_ (n:=s.heap.objs.size+1) k
   refine .inr ⟨.inl k,c,e,?_⟩
   have q:=x.cell y c e
   rw [zfH_ ndP hp hu (by show scope.names.lookup y≠_; rw [k]; decide)] at q
   exact q
 ·exact e0.hok.fresh (Nat.le_of_lt (x.above y c (PySem.mem_of_lookup h)))
 ·unfold start
  show _=N.length
  rw [List.length_append,List.length_map,List.length_replicate]
  lia
theorem fn_of {CX:CXT}{P:Program}{w:World}{K:Fgg}{mg:Str→Option Value}{base:Heap}{k:Nat}{f:Addr}{name qual:Str}{params:Arguments}{body:List Stmt}{scope:Scope}{dV kV doc pm cdv ct oc:Value}{an od:Option Addr}
  {osl:Array (Option Value)}{N ps:List Str}{sp:Sp}(lk:K.lookup f=some ⟨oc,od,.func (PySem.W.fnOf name qual params body scope dV kV doc pm an cdv ct),osl⟩) (hcd:PySem.W.codeIn K cdv qual=true) (S:FnScope N ps scope)
  (len:∀ vs H Q E,sp vs H Q E→vs.length=ps.length)
  (hbody:∀ (A:Around) (outer:List Env) (s:Shared) (H:Hp) (vs:List V) (Q:VK) (E:XK),Room k (A.deeper (envOfC qual scope s.heap.objs.size f cdv))→sp vs H Q E →
   ∃ t,PSs (cxOf CX P w K mg base N qual scope f cdv A outer s H E) body t∧t { nx:=fun _ H'=>Q .non H',rt:=Q } (start N vs) H) :
  FnOk P w K mg base CX (k+1) f (PySem.W.fnOf name qual params body scope dV kV doc pm an cdv ct) ps sp:=by
 refine ⟨len,fun A outer s H args us vs Q E hr e0 hb r hsp=>?_⟩
 have hl:=len _ _ _ _ hsp
 have KX:K.In s.heap:=e0.mod.kin.keeps fun b o e=>(e0.bs b o e).1
 have lim:s.heap.NoLimit:=e0.mod.nolimit.keeps fun b o e=>(e0.bs b o e).1
 have hkind:∀ y∈ps.zip us,scope.names.lookup y.1=some .local∨(scope.names.lookup y.1=some .cell∧((cellsFrom (s.heap.objs.size+1) scope.names []).lookup y.1).isSome=true):=fun ⟨n,v⟩ hy=>by
  rcases S.par n (List.of_mem_zip hy).1 with q | q
  ·exact .inl q
  ·exact .inr ⟨q,PySem.W.cellsFrom_some _ _ _ (.inl q)⟩
 refine codeAny_call_function hr.depth (KX _ _ lk) rfl S.co S.gen rfl (PySem.W.codeRec_of KX hcd) (hb _ _ _ _ ?_)
 refine wpAny_newFunctionEnv_cells S.kind hkind fun env he s1 x=>?_
 subst he
 refine ⟨lim.keeps x.toInCall.keep,codeAny_func ?_⟩
 obtain ⟨t,ht,hq⟩:=hbody A outer s H vs Q E (hr.deeper _) hsp
 have I:Inv (cxOf CX P w K mg base N qual scope f cdv A outer s H E) [] (start N vs) H s1:=zim_ S hr.hd e0 hl r x
 refine wpAny_mono (ht [] s1 (start N vs) H _ I hq) (fun fl s' hs=>?_) fun e s' hs=>hs
 have fin:∀ {σ':St}{H':Hp}{v:V}{u:Value},Inv (cxOf CX P w K mg base N qual scope f cdv A outer s H E) [] σ' H' s'→RelV v u→Q v H'→CE outer P w H s Q u s' :=
  fun {σ' H' v u} J rv q=>⟨v,H',J.os,J.bare,J.base,J.hok,rv,q⟩
 cases fl with
 | ret u =>
  obtain ⟨v,σ',H',J,rv,q⟩:=hs
  exact fin J rv q
 | next =>
  obtain ⟨σ',H',J,q⟩:=hs
  exact fin (v:=V.non) (u:=Value.none) J rfl q
 | brk =>
  obtain ⟨_,_,_,q⟩:=hs
  exact False.elim q
 | cont =>
  obtain ⟨_,_,_,q⟩:=hs
  exact False.elim q
end L2
namespace L2
open PySem PySem.Spec PyProof.Rows
section
variable {X:Cx}{x:Str}{p pos:Pos}{e:Expr}{es:List Expr}{t:TA}{id T:String}{r:List V→Hp→VK→Prop}
noncomputable def tCB (r:List V→Hp→VK→Prop) (t:TA):TE:=fun σ H Q=>t σ H fun vs H1=>r vs H1 Q
theorem zi9_ (hc:CallR X (.builtin id) r) (hg:Gl X x) (hm:X.mg x=none) (hv:bootBuiltins x=some (.builtin id)) (ha:PA X (e::es) t) (hn:x ≠ "__name__" := by decide) (hdb:(x == ("__debug__" : Str))=false:=by decide)
  (he:starEach (e::es) X.env=(false,eval e X.env)::starEach es X.env:=by rfl) (hpl:(backTo pos (starEach es X.env)).any (·.1)=false:=by rfl):PE X (.Call (.Name x p) (e::es) [] pos) (tCB r t):=by
 intro pins s σ H Q I h
 refine wpAny_Call_Name_kw (zgV_ I hg hm hv ?_ hn hdb)
 exact PyProof.Rows.callWith_builtin1 (thn (ha pos pins s σ H _ I h) fun us s1 ⟨vs,H1,I1,r1,q1⟩=>hc pins s1 σ H1 vs us Q I1 r1 q1) he hpl
theorem zh3_ (hc:CallR X (.type T) r) (hg:Gl X x) (hm:X.mg x=none) (hv:bootBuiltins x=some (.type T)) (ha:PA X (e::es) t) (hn:x ≠ "__name__" := by decide) (hdb:(x == ("__debug__" : Str))=false:=by decide)
  (he:starEach (e::es) X.env=(false,eval e X.env)::starEach es X.env:=by rfl) (hpl:(backTo pos (starEach es X.env)).any (·.1)=false:=by rfl):PE X (.Call (.Name x p) (e::es) [] pos) (tCB r t):=by
 intro pins s σ H Q I h
 refine wpAny_Call_Name_kw (zgV_ I hg hm hv ?_ hn hdb)
 exact PyProof.Rows.callWith_type1 (thn (ha pos pins s σ H _ I h) fun us s1 ⟨vs,H1,I1,r1,q1⟩=>hc pins s1 σ H1 vs us Q I1 r1 q1) he hpl
end
end L2
namespace HT
open PySem PyProof.Rows
noncomputable def lexLt:List Int→List Int→Bool
 | [],[]=>false
 | [],_::_=>true
 | _::_,[]=>false
 | x::xs,y::ys=>if x=y then lexLt xs ys else decide (x<y)
theorem lexLt_cons (x y:Int) (xs ys:List Int):lexLt (x::xs) (y::ys)=if x=y then lexLt xs ys else decide (x<y):=rfl
theorem eqAt_int (A:Around) (s:Shared) (a:Int) (t:Tok) (c:Int) (u:Tok):∃ e,SeqAt.EqAt A s (.int a t) (.int c u) e∧(e=true↔a=c) :=
 ⟨(a == c),SeqAt.EqAt.int_int a t c u,by simp⟩
theorem rcLt_int (A:Around) (s:Shared) (a:Int) (t:Tok) (c:Int) (u:Tok) (prog:Program) (w:World) (E:Value→Shared→Prop) (Q:Value→Shared→Prop) (h:Q (.bool (decide (a<c))) s) :
  wpAny (model prog w) A (richCompare .Lt (.int a t) (.int c u)) Q E s :=
 (PyProof.Rows.lt_int h:wpAny (model prog w) A (compareOp .Lt (.int a t) (.int c u)) Q E s)
section
open PySem.SeqAt
open PySem.AutoSeq1 (wpAny_loadPart')
open PySem.MeetsSeq PySem.MeetsSeq2 PySem.MeetsSeq3
end
section
variable {prog:Program}{w:World}{A:Around}{E:Value→Shared→Prop}{s:Shared}
theorem cat_tup {t b:Addr}{vs ws:List Value}{Q:Value→Shared→Prop}(ht:IsTup s.heap t vs.toArray) (hb:IsTup s.heap b ws.toArray) (hv:vs≠[])
  (h1:ws=[]→Q (.ref t) s) (h2:ws≠[]→Q (.ref s.heap.objs.size) { s with heap:=s.heap.push { cls:=.type "tuple",data:=.seq (vs++ws).toArray } })
  (hsz:vs.length+ws.length≤sizeLine):wpAny (model prog w) A (binaryOp .Add (.ref t) (.ref b)) Q E s:=by
 obtain ⟨⟨cls,dd,data,sl⟩,ho,hc,n,hd⟩:=id ht
 obtain ⟨⟨cls2,dd2,data2,sl2⟩,ho2,hc2,n2,hd2⟩:=id hb
 simp only at hc hd hc2 hd2
 subst hc hd hc2 hd2
 have e:vs.toArray++ws.toArray=(vs++ws).toArray:=by simp
 by_cases hw:ws=[]
 ·exact concat_meets ⟨_,ho,rfl⟩ ⟨_,ho2,rfl⟩ noFill_tuple_add seq_tuple_add PySem.F.slot_tuple_add PySem.F.entry_tuple_add (PySem.F.args_tuple_add_2 _ _)
   (tuple_addW1 t b vs.toArray ws.toArray n n2 dd dd2 sl sl2 (by simpa using hv) (by simp [hw])) ⟨ho,ho2,h1 hw⟩
 ·refine concat_meets ⟨_,ho,rfl⟩ ⟨_,ho2,rfl⟩ noFill_tuple_add seq_tuple_add PySem.F.slot_tuple_add PySem.F.entry_tuple_add (PySem.F.args_tuple_add_2 _ _)
   (tuple_addW2 t b vs.toArray ws.toArray n n2 dd dd2 sl sl2 (by simpa using hv) (by simpa using hw) (by rw [List.size_toArray,List.size_toArray]; exact hsz)) ⟨ho,ho2,?_⟩
  rw [e]
  exact h2 hw
noncomputable def sIx (n d:Nat):Option Int→Nat
 | none=>d
 | some v=>if v<0 then (v+(n:Int)).toNat else min v.toNat n
theorem sIx_le (n d:Nat) (hd:d≤n) (o:Option Int):sIx n d o≤n:=by
 cases o with
 | none=>exact hd
 | some v =>
  show (if v<0 then (v+(n:Int)).toNat else min v.toNat n)≤n
  by_cases hv:v<0
  ·rw [if_pos hv]; lia
  ·rw [if_neg hv]; exact Nat.min_le_right _ _
theorem zi6_ (v:Int) (n d:Nat):(if v<0 then max (v+(n:Int)) 0 else min v (n:Int))=((sIx n d (some v):Nat):Int):=by
 show (if v<0 then max (v+(n:Int)) 0 else min v (n:Int))=(((if v<0 then (v+(n:Int)).toNat else min v.toNat n):Nat):Int)
 by_cases hv:v<0
 ·simp only [if_pos hv]; lia
 ·simp only [if_neg hv]; lia
theorem zhz_ (lo hi:Option Int) (n:Nat):Builtin.Slice.sliceAdjust lo hi 1 (n:Int)=(((sIx n 0 lo:Nat):Int),((sIx n n hi:Nat):Int)):=by
 have h1:¬ ((1:Int)<0):=by lia
 unfold Builtin.Slice.sliceAdjust
 simp only [h1,if_false]
 refine Prod.ext ?_ ?_
 ·cases lo with
  | none=>rfl
  | some v=>exact zi6_ v n 0
 ·cases hi with
  | none=>rfl
  | some v=>exact zi6_ v n n
theorem zgy_ (i j:Nat):Builtin.Slice.slicePlaces (i:Int) (j:Int) 1=j-i:=by
 unfold Builtin.Slice.slicePlaces
 have h1:(1:Int) > 0:=by lia
 simp only [h1,if_true,Int.ediv_one]
 split<;>lia
theorem zeG_ {v:Value}{o:Option Int}{Q:Option Int→Shared→Prop}(p:IsPart v o) (h:Q o s):wpAny (model prog w) A (Builtin.Slice.slicePartIndex v) Q E s:=by
 cases p with
 | none=>exact slicePart_none h
 | int i t=>exact slicePart_int h
theorem zcY_ {sl:Addr}{vl vu:Value}{lo hi:Option Int}{n:Nat}{Q:Int×Int×Nat→Shared→Prop}(hs:s.heap.IsSliceOf sl vl vu .none) (pl:IsPart vl lo) (pu:IsPart vu hi)
  (h:Q (((sIx n 0 lo:Nat):Int),1,sIx n n hi-sIx n 0 lo) s):wpAny (model prog w) A (Builtin.Slice.sliceApplied (.ref sl) (pure (n:Int))) Q E s:=by
 obtain ⟨os,hos,hcs,hds⟩:=id hs
 unfold Builtin.Slice.sliceApplied Builtin.Slice.sliceFields
 refine wpAny_bind (wpAny_bind (wpAny_field hos hds (x:=vl) rfl (wpAny_bind (wpAny_field hos hds (x:=vu) rfl (wpAny_bind (wpAny_field hos hds (x:=.none) rfl (wpAny_pure ?_)))))))
 refine wpAny_bind (slicePart_none ?_)
 show wpAny _ _ (if ((1:Int) == 0)=true then _ else _) _ _ s
 rw [if_neg (by decide)]
 refine wpAny_bind (zeG_ pl (wpAny_bind (zeG_ pu (wpAny_bind (wpAny_pure ?_)))))
 show wpAny _ _ (match Builtin.Slice.sliceAdjust lo hi 1 (n:Int) with | (lo,hi)=>pure (lo,(1:Int),Builtin.Slice.slicePlaces lo hi 1)) _ _ s
 rw [zhz_ lo hi n]
 show wpAny _ _ (pure (((sIx n 0 lo:Nat):Int),(1:Int),Builtin.Slice.slicePlaces ((sIx n 0 lo:Nat):Int) ((sIx n n hi:Nat):Int) 1)) _ _ s
 rw [zgy_]
 exact wpAny_pure h
theorem zjf_ (xs:Array Value) (i k:Nat):((List.range k).filterMap fun (m:Nat)=>xs[((i:Int)+(m:Int)*1).toNat]?).toArray=((xs.toList.drop i).take k).toArray:=by
 have e:(fun (m:Nat)=>xs[((i:Int)+(m:Int)*1).toNat]?)=fun m=>xs[i+m]?:=by
  funext m
  have:((i:Int)+(m:Int)*1).toNat=i+m:=by lia
  rw [this]
 rw [e]
 have:=pick_run xs i k
 rw [List.filterMap_map] at this
 have e2:((fun x=>xs[x]?)∘fun x=>i+x)=fun m=>xs[i+m]?:=rfl
 rw [e2] at this
 rw [this]
theorem getItem_tuple_cut {t sl:Addr}{items:Array Value}{vl vu:Value}{lo hi:Option Int}{Q:Value→Shared→Prop}(ht:IsTup s.heap t items) (hs:s.heap.IsSliceOf sl vl vu .none) (pl:IsPart vl lo) (pu:IsPart vu hi)
  (hw:¬ (sIx items.size 0 lo=0∧sIx items.size items.size hi=items.size))
  (h:Q (.ref s.heap.objs.size) { s with heap:=s.heap.push { cls:=.type "tuple",data:=.seq ((items.toList.drop (sIx items.size 0 lo)).take (sIx items.size items.size hi-sIx items.size 0 lo)).toArray } })
  (hsz:items.size≤sizeLine):wpAny (model prog w) A (getItem (.ref t) (.ref sl)) Q E s:=by
 have htake:sizeOk (.seq ((items.toList.drop (sIx items.size 0 lo)).take (sIx items.size items.size hi-sIx items.size 0 lo)).toArray):=by
  show ((items.toList.drop (sIx items.size 0 lo)).take (sIx items.size items.size hi-sIx items.size 0 lo)).toArray.size≤sizeLine
  rw [List.size_toArray,List.length_take,List.length_drop,Array.length_toList]
  lia
 have hj:sIx items.size items.size hi≤items.size:=sIx_le _ _ (Nat.le_refl _) hi
 obtain ⟨os,hos,hcs,hds⟩:=id hs
 have hTs:s.TypeIs (.ref sl) "slice" := ⟨os,hos,hcs⟩
 unfold getItem
 try with_reducible refine wpAny_holding ?_
 first | refine wpAny_bind (wpAny_pure ?_) | skip
 refine wpAny_bind (wpAny_sequenceKey ht.typeIs (by decide) ?_)
 refine wpAny_bind (wpAny_callSpecial?_slot (name:=Str.ofString "__getitem__") ht.typeIs PyProof.Rows.slot_tuple_getitem
  (wpAny_call_entry PyProof.Rows.slot_tuple_getitem ht.typeIs entry_tuple_getitem ?_ (args_tuple_getitem _ _)))
 show wpAny _ _ (Builtin.Tuple.tupleItemsOf (.ref t)>>=_) _ _ s
 refine wpAny_bind (tupleItemsOf_ ht ?_)
 refine wpAny_bind (wpAny_typeOf hTs ?_)
 rw [if_pos (by decide)]
 refine wpAny_bind (zcY_ hs pl pu ?_)
 have hno:¬ ((((sIx items.size 0 lo:Nat):Int) == 0 && (1:Int) == 1 && (sIx items.size items.size hi-sIx items.size 0 lo) == items.size)=true):=by
  intro q
  rw [Bool.and_eq_true,Bool.and_eq_true] at q
  have q1:((sIx items.size 0 lo:Nat):Int)=0:=eq_of_beq q.1.1
  have q2:sIx items.size items.size hi-sIx items.size 0 lo=items.size:=eq_of_beq q.2
  exact hw ⟨by lia,by lia⟩
 show wpAny _ _ (if (((sIx items.size 0 lo:Nat):Int) == 0 && (1:Int) == 1 && (sIx items.size items.size hi-sIx items.size 0 lo) == items.size)=true then _ else _) _ _ s
 rw [if_neg hno,zjf_]
 first
  | exact wpAny_bind (m:=Builtin.Tuple.tupleExact _) (wpAny_newObj_type (wpAny_pure ⟨_,rfl,wpAny_pure h⟩) htake)
  | exact wpAny_bind (m:=Builtin.Tuple.tupleExact _) (wpAny_newObj_type (wpAny_bind (wpAny_pure (wpAny_pure ⟨_,rfl,wpAny_pure h⟩))) htake)
  | exact wpAny_bind (wpAny_bind (m:=Builtin.Tuple.tupleExact _) (wpAny_newObj_type (wpAny_pure (wpAny_pure ⟨_,rfl,wpAny_pure h⟩)) htake))
  | exact wpAny_bind (wpAny_bind (m:=Builtin.Tuple.tupleExact _) (wpAny_newObj_type (wpAny_pure ⟨_,rfl,wpAny_pure h⟩) htake))
end
end HT
namespace L2
open PySem PySem.Spec PyProof.Rows
noncomputable abbrev TO:=St→Hp→(Option Int→Hp→Prop)→Prop
noncomputable def PO (X:Cx) (e:Option Expr) (t:TO):Prop :=
 ∀ (pins:Pnn) (s:Shared) (σ:St) (H:Hp) (Q:Option Int→Hp→Prop),Inv X pins σ H s→t σ H Q →
  wpAny (model X.prog X.w) X.A (evalPart e X.env) (fun u s'=>∃ o H',Inv X pins σ H' s'∧IsPart u o∧Q o H') X.xe s
noncomputable def tNoPart:TO:=fun _ H Q=>Q none H
theorem zey_ {ns:List Int}:∀ {us:List Value},Vals (ns.map V.int) us→IntsAre us ns:=by
 induction ns with
 | nil=>intro us r; rw [List.map_nil] at r; cases r; exact .nil
 | cons n ns ih =>
  intro us r
  rw [List.map_cons] at r
  cases r with
  | cons r1 r2 =>
   obtain ⟨t,e⟩:=r1
   subst e
   exact .cons n t (ih r2)
section
variable {X:Cx}{e:Expr}{te:TE}{lo hi:Option Expr}{tl th:TO}{pos p2:Pos}
theorem zae_:PO X none tNoPart:=by
 intro pins s σ H Q I h
 rw [evalPart_none]
 exact wpAny_pure ⟨none,H,I,.none,h⟩
noncomputable def SlR (X:Cx) (r:V→Option Int→Option Int→Hp→VK→Prop):Prop :=
 ∀ (pins:Pnn) (s:Shared) (σ:St) (H:Hp) (x:V) (v vl vu:Value) (lo hi:Option Int) (sl:Addr) (Q:VK),Inv X pins σ H s→RelV x v→s.heap.IsSliceOf sl vl vu .none→IsPart vl lo→IsPart vu hi→r x lo hi H Q →
  ∃ T id,typeLookup (.type T) "__getitem__" = pure (some (.builtin id))∧s.TypeIs v T∧wpAny (model X.prog X.w) X.A (getItem v (.ref sl)) (EP X pins σ Q) X.xe s
noncomputable def tSl (r:V→Option Int→Option Int→Hp→VK→Prop) (te:TE) (tl th:TO):TE:=fun σ H Q=>te σ H fun x H1=>tl σ H1 fun l H2=>th σ H2 fun u H3=>r x l u H3 Q
theorem zF_ {r:V→Option Int→Option Int→Hp→VK→Prop}(hr:SlR X r) (he:PE X e te) (hl:PO X lo tl) (hu:PO X hi th):PE X (.Subscript e (.Slice lo hi none p2) pos) (tSl r te tl th):=by
 intro pins s σ H Q I h
 refine Subscript_ (thn (he pins s σ H _ I h) fun v s1 ⟨x,H1,I1,r1,q1⟩=>?_)
 refine wpAny_Slice (thn (hl pins s1 σ H1 _ I1 q1) fun vl s2 ⟨l,H2,I2,pl,q2⟩=>thn (hu pins s2 σ H2 _ I2 q2) fun vu s3 ⟨u,H3,I3,pu,q3⟩=>?_)
 rw [evalPart_none]
 refine wpAny_pure ?_
 have I4:Inv X pins σ H3 { s3 with heap:=s3.heap.push { cls:=.type "slice",data:=.fields #[vl,vu,.none] } }:=I3.kept (t':=s3.toks) fun b ob q=>Heap.get?_push_of_some _ q
 obtain ⟨T,id,hT,ht,hg⟩:=hr pins { s3 with heap:=s3.heap.push { cls:=.type "slice",data:=.fields #[vl,vu,.none] } } σ H3 x v vl vu l u s3.heap.objs.size Q I4 r1 (Heap.IsSliceOf.new ..) pl pu q3
 show wpAny (model X.prog X.w) X.A (subscriptTail e (.Slice lo hi none p2) v (.ref s3.heap.objs.size)) (EP X pins σ Q) X.xe { s3 with heap:=s3.heap.push { cls:=.type "slice",data:=.fields #[vl,vu,.none] } }
 exact tail_any (ops:=[.ref s3.heap.objs.size,v]) ht hT hg (by with_unfolding_all rfl)
noncomputable def cutV (xs:List V) (lo hi:Option Int):List V:=(xs.drop (HT.sIx xs.length 0 lo)).take (HT.sIx xs.length xs.length hi-HT.sIx xs.length 0 lo)
theorem zdK_ (xs:List V) (lo hi:Option Int):(cutV xs lo hi).length≤xs.length:=by
 unfold cutV
 rw [List.length_take,List.length_drop]
 lia
noncomputable def rSlT (K:Fgg):V→Option Int→Option Int→Hp→VK→Prop:=fun x lo hi H Q=>∃ a xs,x=.ref a∧SqT K H a xs ∧
 ¬ (HT.sIx xs.length 0 lo=0∧HT.sIx xs.length xs.length hi=xs.length)∧∀ p,H p=none→Q (.ref p) (upd H p (.tup (cutV xs lo hi)))
theorem zmB_:SlR X (rSlT X.K):=by
 intro pins s σ H x v vl vu lo hi sl Q I rx hs pl pu h
 obtain ⟨a,xs,rfl,hx,hw,q⟩:=h
 cases rx
 obtain ⟨its,r,ht,hz⟩:=I.tuple hx
 have hlen:its.toArray.size=xs.length:=by rw [List.size_toArray]; exact r.length.symm
 refine ⟨"tuple",_,PyProof.Rows.slot_tuple_getitem.lookup,ht.typeIs,?_⟩
 refine HT.getItem_tuple_cut ht hs pl pu (by rw [hlen]; exact hw) ?_ (by rw [hlen]; exact hz)
 rw [hlen]
 refine ⟨.ref s.heap.objs.size,_,I.laid (t':=s.toks) (o:=.tup (cutV xs lo hi)) (fun b ob q=>Heap.get?_push_of_some _ q) (Nat.le_refl _) ?_,rfl,q _ (I.hok.fresh (Nat.le_refl _))⟩
 exact ⟨Nat.le_trans (zdK_ xs lo hi) hz,_,(r.drop (HT.sIx xs.length 0 lo)).take (HT.sIx xs.length xs.length hi-HT.sIx xs.length 0 lo),IsTup.new _ _⟩
noncomputable def rCatT (K:Fgg):R2:=fun x y H Q=>∃ a b xs ys,x=.ref a∧y=.ref b∧SqT K H a xs∧SqT K H b ys∧xs≠[]∧xs.length+ys.length≤sizeLine ∧
 (ys=[]→Q (.ref a) H)∧(ys≠[]→∀ p,H p=none→Q (.ref p) (upd H p (.tup (xs++ys))))
theorem Vals.nil_iff {xs:List V}{us:List Value}(r:Vals xs us):us=[]↔xs=[]:=by
 cases r with
 | nil=>simp
 | cons _ _=>simp
theorem zls_:OpR X (binaryOp .Add) (rCatT X.K):=by
 intro pins s σ H x y v u Q I rx ry h
 obtain ⟨a,b,xs,ys,rfl,rfl,ha,hb,hx,hz,q1,q2⟩:=h
 cases rx
 cases ry
 obtain ⟨its,r1,p1,_⟩:=I.tuple ha
 obtain ⟨its2,r2,p2,_⟩:=I.tuple hb
 refine HT.cat_tup p1 p2 (fun z=>hx (r1.nil_iff.mp z)) (fun z=>⟨.ref a,H,I,rfl,q1 (r2.nil_iff.mp z)⟩) (fun z=>?_) (by rw [← r1.length,← r2.length]; exact hz)
 refine ⟨.ref s.heap.objs.size,_,I.laid (t':=s.toks) (o:=.tup (xs++ys)) (fun b ob q=>Heap.get?_push_of_some _ q) (Nat.le_refl _) ?_,rfl,q2 (fun w=>z (r2.nil_iff.mpr w)) _ (I.hok.fresh (Nat.le_refl _))⟩
 exact ⟨by rw [List.length_append]; exact hz,_,r1.append r2,IsTup.new _ _⟩
end
end L2
namespace L2
open PySem PySem.Spec PyProof.Rows
noncomputable def ixN (n:Nat) (i:Int):Option Nat:=if 0≤i then (if i<n then some i.toNat else none) else if -(n:Int)≤i then some (i+n).toNat else none
noncomputable def atI {α:Type}(xs:List α) (i:Int):Option α:=(ixN xs.length i).bind fun j=>xs[j]?
theorem zkT_ {n:Nat}{i:Int}{j:Nat}(h:ixN n i=some j):seqIndex? i n=some j∧j<n ∧ -(n:Int)≤i∧i<n:=by
 unfold ixN at h
 by_cases h0:0≤i
 ·rw [if_pos h0] at h
  by_cases h1:i<n
  ·rw [if_pos h1] at h
   have e:i.toNat=j:=Option.some.inj h
   exact ⟨by rw [seqIndex_of h0 h1,e],by lia,by lia,h1⟩
  ·rw [if_neg h1] at h; cases h
 ·rw [if_neg h0] at h
  by_cases h1 : -(n:Int)≤i
  ·rw [if_pos h1] at h
   have e:(i+n).toNat=j:=Option.some.inj h
   exact ⟨by rw [seqIndex_neg (by lia) h1,e],by lia,h1,by lia⟩
  ·rw [if_neg h1] at h; cases h
theorem zgF_ {α:Type}{xs:List α}{i:Int}{v:α}(h:atI xs i=some v):∃ j,seqIndex? i xs.length=some j∧xs[j]?=some v∧j<xs.length ∧ -(xs.length:Int)≤i∧i<xs.length:=by
 unfold atI at h
 cases e:ixN xs.length i with
 | none=>rw [e] at h; cases h
 | some j =>
  rw [e] at h
  obtain ⟨h1,h2,h3,h4⟩:=zkT_ e
  exact ⟨j,h1,h,h2,h3,h4⟩
noncomputable def PlainIx (b:Expr):Prop:=∀ o i,subscripted b false o i=operate [o,i] (getItem o i)
noncomputable def IxR (X:Cx) (r:R2):Prop :=
 ∀ (value slice:Expr) (pins:Pnn) (s:Shared) (σ:St) (H:Hp) (x y:V) (v u:Value) (Q:VK),Inv X pins σ H s→RelV x v→RelV y u→r x y H Q →
  subscripted slice false v u=operate [v,u] (getItem v u)→wpAny (model X.prog X.w) X.A (subscriptTail value slice v u) (EP X pins σ Q) X.xe s
noncomputable def MtR (X:Cx) (id:String) (r:V→List V→Hp→VK→Prop):Prop :=
 ∀ (pins:Pnn) (s:Shared) (σ:St) (H:Hp) (x:V) (xs:List V) (v:Value) (us:List Value) (Q:VK),Inv X pins σ H s→RelV x v→Vals xs us→r x xs H Q →
  wpAny (model X.prog X.w) X.A (call (.builtin id) (v::us)) (EP X pins σ Q) X.xe s
section
variable {X:Cx}{a b:Expr}{ta tb:TE}{pos:Pos}
theorem zaV_ {r:R2}(hr:IxR X r) (ha:PE X a ta) (hb:PE X b tb) (hs:PlainIx b):PE X (.Subscript a b pos) (tOp r ta tb):=by
 intro pins s σ H Q I h
 exact Subscript_ (binT ha hb I h fun v u s2 x y H2 I2 rx ry q=>hr a b pins s2 σ H2 x y v u Q I2 rx ry q (hs _ _))
noncomputable def rIxL (K:Fgg):R2:=fun x y H Q=>∃ p xs i v,x=.ref p∧y=.int i∧SqL K H p xs∧atI xs i=some v∧Q v H
noncomputable def rIxT (K:Fgg):R2:=fun x y H Q=>∃ p xs i v,x=.ref p∧y=.int i∧SqT K H p xs∧atI xs i=some v∧Q v H
noncomputable def rIxS:R2:=fun x y H Q=>∃ z i c,x=.str z∧y=.int i∧z.length≤sizeLine∧atI z.cps.toList i=some c∧Q (.str ⟨#[c]⟩) H
theorem zlz_:IxR X (rIxL X.K):=by
 intro value slice pins s σ H x y v u Q I rx ry h hs
 obtain ⟨p,xs,i,z,rfl,rfl,hq,he,q⟩:=h
 cases rx
 obtain ⟨t,rfl⟩:=ry
 obtain ⟨its,r,pl,hz⟩:=I.list hq
 obtain ⟨j,h1,h2,h3,h4,h5⟩:=zgF_ he
 obtain ⟨w,ew,rw'⟩:=r.get h2
 have hl:=r.length
 have hn:=line63
 have fin:EP X pins σ Q w s:=⟨z,H,I,rw',q⟩
 by_cases h0:0≤i
 ·have hj:i.toNat=j:=by
   rw [seqIndex_of h0 h5] at h1
   exact Option.some.inj h1
  exact item_listR pl.isList h0 (by lia) (by rw [hj]; simpa using ew) fin hs
 ·have hj:(i+(its.toArray.size:Int)).toNat=j:=by
   rw [seqIndex_neg (by lia) h4] at h1
   rw [List.size_toArray,← hl]
   exact Option.some.inj h1
  exact subscriptTail_builtinR (x:=w) pl.isList.typeIs slot_list_getitem.lookup
   (wpAny_getItem_list_neg (Q:=fun r s'=>r=w∧EP X pins σ Q r s') pl.isList (by lia) (by rw [List.size_toArray]<;>lia) (by lia) (by rw [hj]; simpa using ew) ⟨rfl,fin⟩) hs
theorem zl5_:IxR X (rIxT X.K):=by
 intro value slice pins s σ H x y v u Q I rx ry h hs
 obtain ⟨p,xs,i,z,rfl,rfl,hq,he,q⟩:=h
 cases rx
 obtain ⟨t,rfl⟩:=ry
 obtain ⟨its,r,pl,hz⟩:=I.tuple hq
 obtain ⟨j,h1,h2,h3,h4,h5⟩:=zgF_ he
 obtain ⟨w,ew,rw'⟩:=r.get h2
 have hl:=r.length
 have hn:=line63
 have fin:EP X pins σ Q w s:=⟨z,H,I,rw',q⟩
 exact subscriptTail_builtinR (x:=w) pl.typeIs slot_tuple_getitem.lookup
  (getItem_tuple (j:=j) (Q:=fun r s'=>r=w∧EP X pins σ Q r s') pl (by lia) (by lia) (by rw [List.size_toArray,← hl]; exact h1) (by simpa using ew) ⟨rfl,fin⟩) hs
theorem zmD_:IxR X rIxS:=by
 intro value slice pins s σ H x y v u Q I rx ry h hs
 obtain ⟨z,i,c,rfl,rfl,hz,he,q⟩:=h
 obtain ⟨t,rfl⟩:=rx
 obtain ⟨t',rfl⟩:=ry
 obtain ⟨j,h1,h2,h3,h4,h5⟩:=zgF_ he
 have hl:z.cps.toList.length=z.length:=by simp [Str.length]
 rw [hl] at h1 h4 h5
 have hn:=line63
 exact tail_any (typeIs_str s z t) slot_str_getitem.lookup (getItem_str (c:=c) (by
  have e1:decide (i < -(2 ^ 63:Int))=false:=decide_eq_false (by lia)
  have e2:decide (i ≥ 2 ^ 63)=false:=decide_eq_false (by lia)
  rw [e1,e2,Bool.or_false]) (by rw [h1]; simpa using h2) ⟨.str ⟨#[c]⟩,H,I.tok _,⟨_,rfl⟩,q⟩) hs
theorem zft_ (lo hi:Option Int) (n:Nat):(sliceBounds lo hi none n).1=((HT.sIx n 0 lo:Nat):Int)∧(sliceBounds lo hi none n).2.1=((HT.sIx n n hi:Nat):Int)∧(sliceBounds lo hi none n).2.2=1:=by
 refine ⟨?_,?_,rfl⟩
 ·cases lo with
  | none=>simp [sliceBounds,HT.sIx]
  | some i =>
   simp only [sliceBounds,HT.sIx,Option.getD_none,show (1:Int) > 0 by decide,if_true]
   by_cases h:i<0
   ·simp only [h,if_true]<;>lia
   ·simp only [h,if_false]<;>lia
 ·cases hi with
  | none=>simp [sliceBounds,HT.sIx]
  | some i =>
   simp only [sliceBounds,HT.sIx,Option.getD_none,show (1:Int) > 0 by decide,if_true]
   by_cases h:i<0
   ·simp only [h,if_true]<;>lia
   ·simp only [h,if_false]<;>lia
theorem zeR_ (its:List Value) (lo hi:Option Int):slicePick its.toArray lo hi none=((its.drop (HT.sIx its.length 0 lo)).take (HT.sIx its.length its.length hi-HT.sIx its.length 0 lo)).toArray:=by
 obtain ⟨h1,h2,h3⟩:=zft_ lo hi its.toArray.size
 unfold slicePick
 rw [h1,h2,h3]
 simp only [sliceRange_one,pick_run,List.size_toArray]<;>rfl
noncomputable def rSlL (K:Fgg):V→Option Int→Option Int→Hp→VK→Prop:=fun x lo hi H Q=>∃ a xs,x=.ref a∧SqL K H a xs∧∀ p,H p=none→Q (.ref p) (upd H p (.lst (cutV xs lo hi)))
theorem zkX_:SlR X (rSlL X.K):=by
 intro pins s σ H x v vl vu lo hi sl Q I rx hs pl pu h
 obtain ⟨a,xs,rfl,hx,q⟩:=h
 cases rx
 obtain ⟨its,r,ht,hz⟩:=I.list hx
 have hlen:=r.length
 refine ⟨"list",_,slot_list_getitem.lookup,ht.isList.typeIs,?_⟩
 refine wpAny_getItem_list_slice ht.isList hs pl pu .none (by simp) ?_ (by rw [List.size_toArray]<;>lia)
 rw [zeR_,← hlen]
 refine ⟨.ref s.heap.objs.size,_,I.laid (t':=s.toks) (o:=.lst (cutV xs lo hi)) (fun b ob q=>Heap.get?_push_of_some _ q) (Nat.le_refl _) ?_,rfl,q _ (I.hok.fresh (Nat.le_refl _))⟩
 exact ⟨Nat.le_trans (zdK_ xs lo hi) hz,_,0,(r.drop (HT.sIx xs.length 0 lo)).take (HT.sIx xs.length xs.length hi-HT.sIx xs.length 0 lo),Heap.get?_push_size _ rfl⟩
noncomputable def flatV:V→Bool
 | .non=>true
 | .bl _=>true
 | .int _=>true
 | .str _=>true
 | _=>false
noncomputable def eqV:V→V→Bool
 | .non,.non=>true
 | .bl a,.bl b=>a == b
 | .bl a,.int b=>(if a then 1 else 0) == b
 | .int a,.bl b=>a == (if b then 1 else 0)
 | .int a,.int b=>a == b
 | .str a,.str b=>a == b
 | _,_=>false
theorem zjC_ {A:Around}{s:Shared}{y x:V}{u v:Value}(ry:RelV y u) (rx:RelV x v) (fy:flatV y=true) (fx:flatV x=true):SeqAt.EqAt A s u v (eqV y x):=by
 cases y with
 | non =>
  cases ry
  cases x with
  | non=>cases rx; exact SeqAt.EqAt.same _
  | bl b=>cases rx; exact SeqAt.EqAt.none_bool b
  | int b=>obtain ⟨t,rfl⟩:=rx; exact SeqAt.EqAt.none_int b t
  | str b=>obtain ⟨t,rfl⟩:=rx; exact SeqAt.EqAt.none_str b t
  | _=>exact absurd (show false=true from fx) Bool.false_ne_true
 | bl a =>
  cases ry
  cases x with
  | non=>cases rx; exact SeqAt.EqAt.bool_none a
  | bl b=>cases rx; exact SeqAt.EqAt.bool_bool a b
  | int b=>obtain ⟨t,rfl⟩:=rx; exact SeqAt.EqAt.bool_int a b t
  | str b=>obtain ⟨t,rfl⟩:=rx; exact SeqAt.EqAt.bool_str a b t
  | _=>exact absurd (show false=true from fx) Bool.false_ne_true
 | int a =>
  obtain ⟨t',rfl⟩:=ry
  cases x with
  | non=>cases rx; exact SeqAt.EqAt.int_none a t'
  | bl b=>cases rx; exact SeqAt.EqAt.int_bool a t' b
  | int b=>obtain ⟨t,rfl⟩:=rx; exact SeqAt.EqAt.int_int a t' b t
  | str b=>obtain ⟨t,rfl⟩:=rx; exact SeqAt.EqAt.int_str a t' b t
  | _=>exact absurd (show false=true from fx) Bool.false_ne_true
 | str a =>
  obtain ⟨t',rfl⟩:=ry
  cases x with
  | non=>cases rx; exact SeqAt.EqAt.str_none a t'
  | bl b=>cases rx; exact SeqAt.EqAt.str_bool a t' b
  | int b=>obtain ⟨t,rfl⟩:=rx; exact SeqAt.EqAt.str_int a t' b t
  | str b=>obtain ⟨t,rfl⟩:=rx; exact SeqAt.EqAt.str_str a t' b t
  | _=>exact absurd (show false=true from fx) Bool.false_ne_true
 | _=>exact absurd (show false=true from fy) Bool.false_ne_true
noncomputable def eqU (x:V) (u:Value):Bool:=match u with
 | .none=>eqV .non x
 | .bool b=>eqV (.bl b) x
 | .int i _=>eqV (.int i) x
 | .str z _=>eqV (.str z) x
 | _=>false
theorem zkp_ {x y:V}{u:Value}(r:RelV y u) (f:flatV y=true):eqU x u=eqV y x:=by
 cases y with
 | non=>cases r; rfl
 | bl b=>cases r; rfl
 | int i=>obtain ⟨t,rfl⟩:=r; rfl
 | str z=>obtain ⟨t,rfl⟩:=r; rfl
 | _=>exact absurd (show false=true from f) Bool.false_ne_true
theorem zgR_ {x:V}:∀ {xs:List V}{us:List Value},Vals xs us→xs.all flatV=true→us.any (eqU x)=xs.any fun y=>eqV y x
 | _,_,.nil,_=>rfl
 | y::xs,u::us,.cons r t,f=>by
  rw [List.all_cons,Bool.and_eq_true] at f
  rw [List.any_cons,List.any_cons,zkp_ r f.1,zgR_ t f.2]
theorem zfq_ {A:Around}{s:Shared}{x:V}{v:Value}(rx:RelV x v) (fx:flatV x=true):∀ {xs:List V}{us:List Value},Vals xs us→xs.all flatV=true→∀ u∈us,SeqAt.EqAt A s u v (eqU x u)
 | _,_,.nil,_=>fun u hu=>by cases hu
 | y::xs,u::us,.cons r t,f=>fun u' hu=>by
  rw [List.all_cons,Bool.and_eq_true] at f
  rcases List.mem_cons.mp hu with rfl | hu
  ·rw [zkp_ r f.1]; exact zjC_ r rx f.1 fx
  ·exact zfq_ rx fx t f.2 u' hu
noncomputable def inV (x:V) (xs:List V):Bool:=xs.any fun y=>eqV y x
noncomputable def rIn (K:Fgg) (neg:Bool):R2:=fun x y H Q=>∃ p xs,y=.ref p∧(SqL K H p xs∨SqT K H p xs)∧flatV x=true∧xs.all flatV=true∧Q (.bl (if neg then !inV x xs else inV x xs)) H
theorem zfv_:OpR X (compareOp .NotIn) (rIn X.K true):=by
 intro pins s σ H x y v u Q I rx ry h
 obtain ⟨p,xs,rfl,hq,fx,fs,q⟩:=h
 cases ry
 rcases hq with hq | hq
 ·obtain ⟨its,r,pl,hz⟩:=I.list hq
  refine SeqAt.notIn_listAt (eqU x) pl.isList (fun w hw=>zfq_ rx fx r fs w (by simpa using hw)) ⟨.bl _,H,I,rfl,?_⟩
  rw [show its.toArray.any (eqU x)=its.any (eqU x) by simp,zgR_ r fs]
  exact q
 ·obtain ⟨its,r,pl,hz⟩:=I.tuple hq
  refine SeqAt.notIn_tupleAt (eqU x) pl (fun w hw=>zfq_ rx fx r fs w (by simpa using hw)) ⟨.bl _,H,I,rfl,?_⟩
  rw [show its.toArray.any (eqU x)=its.any (eqU x) by simp,zgR_ r fs]
  exact q
theorem zfy_:CallR X (.builtin "len") (fun xs H Q=>∃ p ys,xs=[.ref p]∧(SqL X.K H p ys∨SqT X.K H p ys)∧Q (.int ys.length) H):=by
 intro pins s σ H xs us Q I r h
 obtain ⟨p,ys,rfl,hq,q⟩:=h
 obtain ⟨u,rfl,rx⟩:=vals1 r
 cases rx
 have hn:=line63
 rcases hq with hq | hq
 ·obtain ⟨its,r',pl,hz⟩:=I.list hq
  have hlen:=r'.length
  exact Calls.call_len_list pl.isList (by simp only [List.size_toArray]<;>lia) ⟨.int ys.length,H,I.tok _,⟨s.toks+1,by rw [List.size_toArray,hlen]⟩,q⟩
 ·obtain ⟨its,r',pl,hz⟩:=I.tuple hq
  have hlen:=r'.length
  exact len_tuple pl (by simp only [List.size_toArray]<;>lia) ⟨.int ys.length,H,I.tok _,⟨s.toks+1,by rw [List.size_toArray,hlen]⟩,q⟩
theorem zfp_:CallR X (.builtin "len") (fun xs H Q=>∃ z,xs=[.str z]∧z.length≤sizeLine∧Q (.int z.length) H):=by
 intro pins s σ H xs us Q I r h
 obtain ⟨z,rfl,hz,q⟩:=h
 obtain ⟨u,rfl,t,rfl⟩:=vals1 r
 have hn:=line63
 exact len_str (by lia) ⟨.int z.length,H,I.tok _,⟨_,rfl⟩,q⟩
theorem zfx_:CallR X (.type "list") (fun xs H Q=>∃ p ys,xs=[.ref p]∧(SqL X.K H p ys∨SqT X.K H p ys)∧∀ l,H l=none→Q (.ref l) (upd H l (.lst ys))):=by
 intro pins s σ H xs us Q I r h
 obtain ⟨p,ys,rfl,hq,q⟩:=h
 obtain ⟨u,rfl,rx⟩:=vals1 r
 cases rx
 have fin:∀ (its:List Value),Vals ys its→ys.length≤sizeLine→∀ (h':Heap) (c':Nat),(∀ b o',s.heap.get? b=some o'→h'.get? b=some o') →
   h'.get? s.heap.objs.size=some { cls:=.type "list",dict:=none,data:=.seq its.toArray c',slots:=#[] }→EP X pins σ Q (.ref s.heap.objs.size) { s with heap:=h' }:=fun its r' hz h' c' kp e =>
  ⟨.ref s.heap.objs.size,_,I.laid (t':=s.toks) kp (Nat.le_refl _) (show ObjOk X.prog X.w _ h' _ (.lst ys) from ⟨hz,its,c',r',e⟩),rfl,q _ (I.hok.fresh (Nat.le_refl _))⟩
 rcases hq with hq | hq
 ·obtain ⟨its,r',pl,hz⟩:=I.list hq
  have hlen:=r'.length
  obtain ⟨o,ho,hc,n,hd⟩:=pl.isList
  exact call_list_seq p (.inl rfl) ho hc hd (fun h' c' kp e=>fin its r' hz h' c' kp e) (by simp only [List.size_toArray]<;>lia)
 ·obtain ⟨its,r',pl,hz⟩:=I.tuple hq
  have hlen:=r'.length
  obtain ⟨o,ho,hc,n,hd⟩:=pl
  exact call_list_seq p (.inr rfl) ho hc hd (fun h' c' kp e=>fin its r' hz h' c' kp e) (by simp only [List.size_toArray]<;>lia)
noncomputable def tyV (K:Fgg) (T:String) (x:V) (H:Hp):Prop:=match x with
 | .str _=>T = "str"
 | .int _=>T = "int"
 | .ref p=>(T = "list" ∧ ∃ xs,SqL K H p xs)∨(T = "tuple" ∧ ∃ o,K.lookup p=some o∧o.cls=.type "tuple" ∧ o.dict=none) ∨
   (T = "dict" ∧ ((∃ kvs,H p=some (.dK kvs))∨∃ kvs,H p=some (.dT kvs)))∨(T = "set" ∧ ∃ S n,H p=some (.set S n))
 | _=>False
theorem zlH_ {pins:Pnn}{σ:St}{H:Hp}{s:Shared}{T:String}{x:V}{v:Value}(I:Inv X pins σ H s) (r:RelV x v) (ty:tyV X.K T x H) :
  s.TypeIs v T∧∀ a,v=.ref a→∃ ob,s.heap.get? a=some ob∧ob.dict=none:=by
 cases x with
 | str z =>
  obtain ⟨t,rfl⟩:=r
  cases (show T = "str" from ty)
  exact ⟨typeIs_str s z t,fun _ e=>nomatch e⟩
 | int i =>
  obtain ⟨t,rfl⟩:=r
  cases (show T = "int" from ty)
  exact ⟨typeIs_int s i t,fun _ e=>nomatch e⟩
 | ref p =>
  cases r
  rcases ty with ⟨rfl,xs,hq⟩ | ⟨rfl,o,hk,hc,hd⟩ | ⟨rfl,hk⟩ | ⟨rfl,S,n,hk⟩
  ·obtain ⟨its,_,pl,_⟩:=I.list hq
   refine ⟨pl.isList.typeIs,fun a e=>?_⟩
   cases e
   obtain ⟨o,n,e,c,hd,_⟩:=pl
   exact ⟨o,e,hd⟩
  ·refine ⟨⟨o,I.kIn p o hk,hc⟩,fun a e=>?_⟩
   cases e
   exact ⟨o,I.kIn _ o hk,hd⟩
  ·have z:∃ o,s.heap.get? p=some o∧o.ExactDict:=by
    rcases hk with ⟨kvs,hk⟩ | ⟨kvs,hk⟩
    ·obtain ⟨_,_,_,_,o,_,_,e,ex,_⟩:=I.hok p _ hk
     exact ⟨o,e,ex⟩
    ·obtain ⟨_,_,_,_,o,_,_,e,ex,_⟩:=I.hok p _ hk
     exact ⟨o,e,ex⟩
   obtain ⟨o,e,ex⟩:=z
   refine ⟨⟨o,e,ex.1⟩,fun a e2=>?_⟩
   cases e2
   exact ⟨o,e,ex.2.1⟩
  ·obtain ⟨o,_,_,_,e,ex,_⟩:=I.hok p _ hk
   refine ⟨⟨o,e,ex.1⟩,fun a e2=>?_⟩
   cases e2
   exact ⟨o,e,ex.2.1⟩
 | _=>exact False.elim ty
noncomputable def tBM (K:Fgg) (T:String) (r:V→List V→Hp→VK→Prop) (to:TE) (t:TA):TE:=fun σ H Q=>to σ H fun x H1=>tyV K T x H1∧t σ H1 fun xs H2=>r x xs H2 Q
variable {o e:Expr}{es:List Expr}{to:TE}{t:TA}{name:Str}{apos cpos:Pos}{T id:String}{r:V→List V→Hp→VK→Prop}
theorem zlt_ (pa:PlainAttrs T) (slot:Slot T name id) (hty:typeOf (.builtin id)=pure (.type "method_descriptor")) (hm:MtR X id r) (ho:PE X o to) (ha:PA X (e::es) t)
  (hbase:attributeBase o name X.env (eval o X.env)=eval o X.env:=by rfl)
  (hfew:((backTo cpos (starEach (e::es) X.env)).all (fun x=>!x.1) && (backToKw cpos (keywordEach [] X.env)).all (fun x=>x.1.isSome)
   && decide ((e::es).length+([]:List Keyword).length+(if ([]:List Keyword).isEmpty then 0 else 1)<30))=true:=by rfl)
  (hline:(apos.endLine == cpos.line)=true:=by rfl) (hs:starEach (e::es) X.env=(false,eval e X.env)::starEach es X.env:=by rfl) (hplain:(backTo cpos (starEach es X.env)).any (·.1)=false:=by rfl) :
  PE X (.Call (.Attribute o name apos) (e::es) [] cpos) (tBM X.K T r to t):=by
 intro pins s σ H Q I h
 refine wpAny_Call_method_late hbase hfew hline rfl (thn (ho pins s σ H _ I h) fun v s1 ⟨x,H1,I1,r1,ty,q1⟩=>?_)
 obtain ⟨h1,h2⟩:=zlH_ I1 r1 ty
 refine ⟨T,id,pa,slot,hty,h1,h2,?_⟩
 have hA:=ha cpos pins s1 σ H1 _ I1 q1
 rw [hs] at hA ⊢
 refine Calls.callWith_builtin (by show (false || (backTo cpos (starEach es X.env)).any (·.1))=false; rw [hplain]<;>rfl) (Calls.evalArgs_plain ?_)
 exact thn hA fun us s2 ⟨vs,H2,I2,r2,q2⟩=>hm pins s2 σ H2 x vs v us Q I2 r1 r2 q2
end
end L2
namespace L2
open PySem PySem.Spec PyProof.Rows
noncomputable def MtM (X:Cx) (id:String) (r:V→List V→Hp→VK→Prop):Prop :=
 ∀ (pins:Pnn) (s:Shared) (σ:St) (H:Hp) (x:V) (xs:List V) (v:Value) (us:List Value) (Q:VK),Inv X pins σ H s→RelV x v→Vals xs us→r x xs H Q →
  wpAny (model X.prog X.w) X.A (call (.builtin id) (v::us)) (EP X pins σ Q) X.xe s
theorem Vals.one:∀ {x:V}{us:List Value},Vals [x] us→∃ u,us=[u]∧RelV x u
 | _,_,.cons r .nil=>⟨_,rfl,r⟩
theorem Vals.dropLast {xs:List V}{us:List Value}(h:Vals xs us):Vals xs.dropLast us.dropLast:=by
 induction h with
 | nil=>exact .nil
 | cons r t ih =>
  cases t with
  | nil=>exact .nil
  | cons q t'=>exact .cons r ih
theorem Vals.rep {xs:List V}{us:List Value}(h:Vals xs us):∀ k:Nat,Vals (List.replicate k xs).flatten (List.replicate k us).flatten
 | 0=>.nil
 | k+1=>by
  rw [List.replicate_succ,List.replicate_succ,List.flatten_cons,List.flatten_cons]
  exact Vals.append h (Vals.rep h k)
theorem zkK_ {α:Type}(l:List α):l.eraseIdx (l.length-1)=l.dropLast:=by
 induction l with
 | nil=>rfl
 | cons a r ih =>
  cases r with
  | nil=>rfl
  | cons b r =>
   have e:(a::b::r).length-1=((b::r).length-1)+1:=by
    have h1:(a::b::r).length=r.length+2:=rfl
    have h2:(b::r).length=r.length+1:=rfl
    lia
   rw [e,List.eraseIdx_cons_succ,ih]
   all_goals rfl
theorem zfY_ (its:List Value):∀ (k:Nat) (acc:List Value),
  List.foldl (fun x1 x2=>x1++x2) acc.toArray (List.replicate k its.toArray)=(acc++(List.replicate k its).flatten).toArray
 | 0,acc=>by simp
 | k+1,acc=>by
  have e:acc.toArray++its.toArray=(acc++its).toArray:=by simp
  have e2:(acc++its)++(List.replicate k its).flatten=acc++(List.replicate (k+1) its).flatten:=by
   rw [List.replicate_succ,List.flatten_cons,List.append_assoc]
  rw [← e2,← zfY_ its k (acc++its),← e,List.replicate_succ,List.foldl_cons]
section
variable {X:Cx}{pins:Pnn}{σ:St}{H:Hp}{s:Shared}{l b:Addr}{xs ys zs:List V}
theorem Inv.lset {its its':List Value}{n:Nat}{f:Array Value→Array Value}{t':Nat}(I:Inv X pins σ H s) (hH:H l=some (.lst xs))
  (e:s.heap.get? l=some { cls:=.type "list",data:=.seq its.toArray n }) (hf:f its.toArray=its'.toArray) (hv:Vals ys its') (hz:ys.length≤sizeLine) :
  Inv X pins σ (upd H l (.lst ys)) { s with heap:=s.heap.update l (Obj.mapSeq f),toks:=t' }:=by
 have q:=PySem.IsL.update e f
 rw [hf] at q
 refine I.write (x:=l) (e:=l) (by rw [hH]; exact trivial) (.inl rfl) (fun b' u hb hu=>(Heap.get?_update_other s.heap (Obj.mapSeq f) (Ne.symm hb)).trans hu) ⟨_,q⟩ ?_
 exact ⟨hz,its',_,hv,q⟩
theorem Inv.lnew {its:List Value}{t':Nat}(I:Inv X pins σ H s) (hv:Vals ys its) (hz:ys.length≤sizeLine) :
  Inv X pins σ (upd H s.heap.objs.size (.lst ys)) { s with heap:=s.heap.push { cls:=.type "list",data:=.seq its.toArray },toks:=t' } :=
 I.laid (fun _ _ q=>Heap.get?_push_of_some _ q) (Nat.le_refl _) ⟨hz,its,0,hv,Heap.get?_push_size _ rfl⟩
theorem Inv.fresh (I:Inv X pins σ H s):H s.heap.objs.size=none:=I.hok.fresh (Nat.le_refl _)
theorem Inv.lstM (I:Inv X pins σ H s) (hH:H l=some (.lst xs)):xs.length≤sizeLine∧∃ (its:List Value) (n:Nat),Vals xs its∧xs.length=its.length∧s.heap.get? l=some { cls:=.type "list",data:=.seq its.toArray n }:=by
 obtain ⟨z,its,n,r,e⟩:=I.hok l _ hH
 exact ⟨z,its,n,r,r.length,e⟩
theorem notLongL {n:Nat}(h:n≤sizeLine):Builtin.List.listTooLong n=false:=by
 unfold Builtin.List.listTooLong
 exact decide_eq_false (by lia)
end
section
variable {X:Cx}
noncomputable def rAppend:V→List V→Hp→VK→Prop:=fun x vs H Q=>∃ l xs y,x=.ref l∧vs=[y]∧H l=some (.lst xs)∧xs.length<sizeLine∧Q .non (upd H l (.lst (xs++[y])))
theorem zcQ_:MtM X "list.append" rAppend:=by
 intro pins s σ H x vs v us Q I rx rv h
 obtain ⟨l,xs,y,rfl,rfl,hH,hz,q⟩:=h
 cases rx
 obtain ⟨u,rfl,ru⟩:=rv.one
 obtain ⟨z,its,n,r,hl,e⟩:=I.lstM hH
 refine call_meets F.slot_list_append ⟨_,e,rfl⟩ F.entry_list_append (F.args_list_append_2 _ _) (PySem.list_append l its.toArray n u (by rw [List.size_toArray]; lia)) ⟨e,?_⟩
 refine ⟨.non,_,I.lset (its':=its++[u]) hH e (by simp) (r.append (.cons ru .nil)) ?_,rfl,q⟩
 rw [List.length_append,List.length_singleton]
 lia
noncomputable def rExtend:V→List V→Hp→VK→Prop:=fun x vs H Q=>∃ l b xs zs,x=.ref l∧vs=[.ref b]∧H l=some (.lst xs)∧H b=some (.lst zs)∧xs.length+zs.length≤sizeLine∧Q .non (upd H l (.lst (xs++zs)))
theorem zlD_:MtM X "list.extend" rExtend:=by
 intro pins s σ H x vs v us Q I rx rv h
 obtain ⟨l,b,xs,zs,rfl,rfl,hH,hB,hz,q⟩:=h
 cases rx
 obtain ⟨u,rfl,ru⟩:=rv.one
 cases ru
 obtain ⟨z,its,n,r,hl,e⟩:=I.lstM hH
 obtain ⟨z2,its2,n2,r2,hl2,e2⟩:=I.lstM hB
 have hsz:its.toArray.size+its2.toArray.size≤sizeLine:=by rw [List.size_toArray,List.size_toArray]; lia
 have hlong:¬ (!its.toArray.isEmpty && Builtin.List.listTooLong (its.toArray.size+its2.toArray.size))=true:=by
  rw [notLongL hsz,Bool.and_false]
  exact Bool.false_ne_true
 refine call_meets F.slot_list_extend ⟨_,e,rfl⟩ F.entry_list_extend (F.args_list_extend_2 _ _)
  (AutoSeq1.list_extend_list_list_0 l its.toArray n b its2.toArray n2 hlong (by rw [List.size_toArray]; lia) (by lia)) ⟨e,e2,?_⟩
 refine ⟨.non,_,I.lset (its':=its++its2) hH e (by simp) (r.append r2) ?_,rfl,q⟩
 rw [List.length_append]
 lia
noncomputable def rCat:R2:=fun x y H Q=>∃ l b xs zs,x=.ref l∧y=.ref b∧H l=some (.lst xs)∧H b=some (.lst zs)∧xs.length+zs.length≤sizeLine∧∀ p,H p=none→Q (.ref p) (upd H p (.lst (xs++zs)))
theorem zl1_:OpR X (binaryOp .Add) rCat:=by
 intro pins s σ H x y v u Q I rx ry h
 obtain ⟨l,b,xs,zs,rfl,rfl,hH,hB,hz,q⟩:=h
 cases rx
 cases ry
 obtain ⟨z,its,n,r,hl,e⟩:=I.lstM hH
 obtain ⟨z2,its2,n2,r2,hl2,e2⟩:=I.lstM hB
 refine PySem.P.add_list e e2 ?_ (by rw [List.size_toArray,List.size_toArray]; lia)
 have ea:its.toArray++its2.toArray=(its++its2).toArray:=by simp
 rw [ea]
 exact ⟨.ref _,_,I.lnew (t':=s.toks) (r.append r2) (by rw [List.length_append]; lia),rfl,q _ I.fresh⟩
noncomputable def rRep:R2:=fun x y H Q=>∃ l k xs,x=.ref l∧y=.int k∧H l=some (.lst xs) ∧ -(2 ^ 63)≤k∧k<2 ^ 63∧xs.length*k.toNat≤sizeLine ∧
 ∀ p,H p=none→Q (.ref p) (upd H p (.lst (List.replicate k.toNat xs).flatten))
theorem zi4_ {α:Type}(xs:List α) (k:Nat):(List.replicate k xs).flatten.length=k*xs.length:=by
 induction k with
 | zero=>simp
 | succ k ih=>rw [List.replicate_succ,List.flatten_cons,List.length_append,ih,Nat.succ_mul,Nat.add_comm]
theorem zlV_:OpR X (binaryOp .Mult) rRep:=by
 intro pins s σ H x y v u Q I rx ry h
 obtain ⟨l,k,xs,rfl,rfl,hH,h1,h2,hz,q⟩:=h
 cases rx
 obtain ⟨t,rfl⟩:=ry
 obtain ⟨z,its,n,r,hl,e⟩:=I.lstM hH
 have hlen:its.toArray.size*k.toNat≤sizeLine:=by rw [List.size_toArray,← hl]; exact hz
 have hcap:¬ its.toArray.size*k.toNat > (2 ^ 63-1) / 8:=by
  have:(sizeLine:Nat)≤(2 ^ 63-1) / 8:=by decide
  lia
 have hfit:¬ (!Builtin.List.listFitsIndex k)=true:=by
  rw [fitsIndex_both h1 h2]
  exact Bool.false_ne_true
 have hlong:¬ Builtin.List.listTooLong (its.toArray.size*k.toNat)=true:=by
  rw [notLongL hlen]
  exact Bool.false_ne_true
 have hnew:List.foldl (fun x1 x2=>x1++x2) #[] (List.replicate (if its.toArray.isEmpty=true then 0 else k.toNat) its.toArray)=(List.replicate k.toNat its).flatten.toArray:=by
  have f0:∀ m:Nat,List.foldl (fun x1 x2=>x1++x2) #[] (List.replicate m its.toArray)=(List.replicate m its).flatten.toArray:=fun m=>by
   have:=zfY_ its m []
   rw [List.nil_append] at this
   exact this
  rw [f0]
  cases its with
  | nil=>simp
  | cons a r'=>rw [if_neg (by simp)]
 refine wpAny_binaryOp_repeat_ref (T := "list") (U := "int") (by decide) ⟨_,e,rfl⟩ (fun s'=>typeIs_int s' k t) noFill_list_mul F.fills_int_mul F.slot_int_rmul repeat_list F.slot_int_index.lookup
  (call_meets F.slot_int_rmul (typeIs_int s k t) F.entry_int_rmul (F.args_int_rmul_2 _ _) (int___rmul___int_list k t l its.toArray n)
   ⟨e,rfl,⟨_,e,rfl⟩,call_meets F.slot_list_mul ⟨_,e,rfl⟩ F.entry_list_mul (F.args_list_mul_2 _ _) (AutoListH.list___mul___list_int_3 l its.toArray n k t hfit hcap hlong) ⟨e,?_⟩⟩)
 rw [hnew]
 exact ⟨.ref _,_,I.lnew (t':=s.toks) (r.rep k.toNat) (by rw [zi4_,Nat.mul_comm]; exact hz),rfl,q _ I.fresh⟩
end
section
variable {prog:Program}{w:World}{A:Around}{E:Value→Shared→Prop}{s:Shared}
end
section
variable {X:Cx}
end
end L2
namespace Att
open PySem PySem.W PySem.Calls PyProof.Rows
theorem zdH_ {P:Params}{h:Heap}:∀ (ns:List Int) (vs:List Value),WellAll P h vs (ns.map WData.int)→IntsAre vs ns:=by
 intro ns
 induction ns with
 | nil =>
  intro vs w
  rw [List.map_nil] at w
  cases w
  exact .nil
 | cons n ns ih =>
  intro vs w
  rw [List.map_cons] at w
  cases w with
  | cons a b =>
   cases a
   exact .cons _ _ (ih _ b)
theorem ziw_ {l:OpenLaw}{n:Nat}(hn:l.most=some n) {P:Params}{h:Heap}{args:List WData}{vals:List Value}
  (hpre:l.row.toRowW.claim.pre args=true) (hwl:WellAll P h vals args) :
  ∃ a vs ns,vals=[Value.ref a]∧args=[WData.list (ns.map WData.int)]∧h.get? a=some { cls:=.type "list",data:=.seq vs.toArray }∧IntsAre vs ns∧ns.length≤n:=by
 have hsh:WShape.hasAll [] args [.list .int]=true:=(pre_splitW hpre).1
 have hc:l.pre.holds [] { args:=args }=true:=(pre_splitW hpre).2
 obtain ⟨d,r,rfl,h1,h2⟩:=hasAllW_cons hsh
 obtain rfl:=hasAllW_nil h2
 obtain ⟨xs,rfl,h3⟩:=hasW_list h1
 obtain ⟨ns,rfl⟩:=items_int h3
 have hlen:ns.length≤n:=by
  unfold OpenLaw.pre at hc
  have h4:(WTm.not (.lt (.lit (.int (n:Int))) (.len (.arg 0)))).holds [] { args:=[.list (ns.map .int)] }=true:=by
   have h4:=(holds_andW hc).1
   rw [hn] at h4
   exact h4
  have h5:=condW_of h4 (w_not (w_lt w_lit (w_len_list (w_arg rfl))))
  rw [List.length_map] at h5
  refine Nat.le_of_not_lt fun q=>?_
  have q':(n:Int)<((ns.length:Nat):Int):=by lia
  first
   | (rw [decide_eq_true q'] at h5; exact absurd h5 (by decide))
   | (simp at h5; lia)
 cases hwl with
 | cons w1 w2 =>
  cases w2
  cases w1 with
  | list ho hall=>exact ⟨_,_,ns,rfl,rfl,ho,zdH_ ns _ hall,hlen⟩
theorem zia_ (l:OpenLaw) (args:List WData):l.row.toRowW.claim.post args (.bool true) args=true :=
 postW_of (r:=l.row.toRowW) (X:=(true == true))
  (show WShape.has [] (.bool true) .bool=true by first | rfl | decide | simp [WShape.has,WShape.arms,WShape.armsAll])
  (show (WTm.eq .res (.lit (.bool true))).value [] { args:=args,res:=some (.bool true),after:=args }=some (.bool (true == true)) from w_eq_bool (w_res rfl) w_lit) rfl
section
variable {prog:Program}{w:World}{A:Around}{E:Value→Shared→Prop}{s:Shared}{K:Frag}
end
end Att
namespace L2
open PySem PySem.Spec PyProof.Rows
theorem zfE_:∀ {vs:List Value}{ns:List Int},IntsAre vs ns→Vals (ns.map V.int) vs
 | _,_,.nil=>.nil
 | _,_,.cons n t h=>.cons ⟨t,rfl⟩ (zfE_ h)
noncomputable def Only (H:Hp):Prop:=∀ b,H b=none∨∃ o xs,H b=some (.frz o (.lst xs))
theorem zjG_ {P:Program}{w:World}{K:Fgg}{mg mb:Str→Option Value}{CX:CXT}{k:Nat}{fa a:Addr}{fd:FuncData}{x:Str}{sp:Sp}{s₁:Shared}{vs:List Value}{ns:List Int}
  (KX:K.In s₁.heap) (hns:s₁.heap.Ns mainGlobals mg) (hb:s₁.heap.Ns builtinsNs mb) (hbb:∀ x:Str,x ≠ "__name__" → mb x=bootBuiltins x) (hlim:s₁.heap.NoLimit) (hg:s₁.gens=#[])
  (ha:s₁.heap.get? a=some { cls:=.type "list",data:=.seq vs.toArray }) (hi:IntsAre vs ns) (hl:ns.length≤sizeLine) (hr:Room k callerA)
  (F:∀ base:Heap,K.In base→base.Ns mainGlobals mg→FnOk P w K mg base CX k fa fd [x] sp) (hbind:∀ (s:Shared) (u:Value),BindsTo s fd ⟨[u],[]⟩ [(x,u)])
  (hsp:∀ H:Hp,Only H→SqL K H a (ns.map V.int)→sp [.ref a] H (fun v _=>v=.bl true) fun _ _ _=>False)
  (hCX:∀ H e s',CX [] H s₁ (fun _ _ _=>False) e s'→False) :
  codeAny (model P w) callerA (.call (.ref fa) ⟨[.ref a],[]⟩) (fun r s'=>r=.ok (.ret (.bool true))∧OldK s₁.heap s'.heap∧s'.os=s₁.os∧AllBare s'.gens) s₁:=by
 have rv:=zfE_ hi
 have lenV:=hi.length
 have core:∀ H:Hp,Only H→SqL K H a (ns.map V.int)→HOk P w H s₁.heap→(∀ b,H b≠none→b=a)→(H a≠none→K.lookup a=none) →
   codeAny (model P w) callerA (.call (.ref fa) ⟨[.ref a],[]⟩) (fun r s'=>r=.ok (.ret (.bool true))∧OldK s₁.heap s'.heap∧s'.os=s₁.os∧AllBare s'.gens) s₁:=by
  intro H hO hS hok hA hK
  have base_of:∀ {b:Addr}{o:Obj},s₁.heap.get? b=some o→H b=none→(hidT s₁.heap H).get? b=some o:=fun e n=>zi8_ e n
  have noA:∀ {b:Addr}{o:Obj}{es:Array DictEntry}{ep:Nat},s₁.heap.get? b=some o→o.data=.dict es ep→H b=none:=fun {b o es ep} e d=>by
   cases q:H b with
   | none=>rfl
   | some u =>
    have e':b=a:=hA b (by rw [q]; simp)
    subst e'
    rw [ha] at e; cases e
    have d':Data.seq vs.toArray _=Data.dict es ep:=d
    cases d'
  have nsK:∀ {b:Addr}{m:Str→Option Value},s₁.heap.Ns b m→(hidT s₁.heap H).Ns b m:=fun {b m} ⟨o,es,ep,e,d,r⟩=>⟨o,es,ep,base_of e (noA e d),d,r⟩
  have hKb:K.In (hidT s₁.heap H):=fun b o e=>base_of (KX b o e) (by
   cases q:H b with
   | none=>rfl
   | some u =>
    have e':b=a:=hA b (by rw [q]; simp)
    subst e'
    rw [hK (by rw [q]; simp)] at e; cases e)
  have hM:Mod K mg (hidT s₁.heap H):=⟨hKb,nsK hns,⟨mb,nsK hb,hbb⟩,let ⟨mc,h1,h2⟩:=hlim; ⟨mc,nsK h1,h2⟩⟩
  have e0:Env0 P w K mg (hidT s₁.heap H) callerA [] s₁ H:=⟨rfl,hM,fun b o e=>zku_ e,Nat.le_of_eq (zic_ _ _),trivial,fun b hb=>absurd (show b∈([]:List Addr) from hb) (by simp),hok,.of_eq hg⟩
  refine codeAny_mono ((F _ hKb (nsK hns)).run callerA [] s₁ H ⟨[.ref a],[]⟩ [.ref a] [.ref a] _ _ hr e0 (hbind s₁ (.ref a)) (.cons rfl .nil) (hsp H hO hS)) fun r s' h=>?_
  cases r with
  | error e=>exact (hCX H e s' h).elim
  | ok fl =>
   cases fl with
   | next=>exact False.elim h
   | brk=>exact False.elim h
   | cont=>exact False.elim h
   | ret u =>
    obtain ⟨v,H',os,bare,un,hok',r',q⟩:=h
    have q':v=.bl true:=q
    subst q'
    obtain rfl:u=Value.bool true:=r'
    refine ⟨rfl,OldK.of_keep fun b o e=>?_,os,bare⟩
    cases q:H b with
    | none=>exact un.keep b o e q (by intro z; exact absurd (show b∈([]:List Addr) from z) (by simp)) (by simp)
    | some u =>
     rcases hO b with z | ⟨ob,xs,z⟩
     ·rw [q] at z; cases z
     ·have z2:=un.frzs b ob _ z
      obtain ⟨e1,_⟩:=hok b _ z
      obtain ⟨e2,_⟩:=hok' b _ z2
      rw [e] at e1; cases e1
      exact e2
 cases hk:K.lookup a with
 | some o =>
  have e:=KX a o hk
  rw [ha] at e
  cases e
  refine core (fun _=>none) (fun _=>.inl rfl) (.inr ⟨_,vs.toArray,_,hk,rfl,rfl,rfl,by rw [List.size_toArray,lenV]; exact hl,by simpa using rv⟩) (fun b u z=>by have z':(none:Option HO)=some u:=z; cases z') (fun b z=>absurd rfl z) fun z=>absurd rfl z
 | none =>
  refine core (fun b=>if b=a then some (.frz { cls:=.type "list",data:=.seq vs.toArray } (.lst (ns.map V.int))) else none) (fun b=>?_) (.inl (.inr ⟨{ cls:=.type "list",data:=.seq vs.toArray },if_pos rfl⟩)) (fun b u z=>?_) (fun b z=>?_) fun _=>hk
  ·by_cases hb:b=a
   ·exact .inr ⟨_,_,if_pos hb⟩
   ·exact .inl (if_neg hb)
  ·by_cases hb:b=a
   ·have z':=(if_pos hb).symm.trans z
    cases z'
    subst hb
    exact ⟨ha,by rw [List.length_map]; exact hl,vs,_,rv,ha⟩
   ·have z':=(if_neg hb).symm.trans z
    cases z'
  ·by_cases hb:b=a
   ·exact hb
   ·exact absurd (if_neg hb) z
end L2
namespace L2
open PySem PySem.Spec PyProof.Rows
end L2
namespace L2
open PySem PySem.Spec PyProof.Rows
noncomputable def defArgs (s:Stmt):Arguments:=match s with
 | .FunctionDef _ a _ _ _ _ _ _ _ _=>a
 | _=>{ posonlyargs:=[],args:=[],vararg:=none,kwonlyargs:=[],kw_defaults:=[],kwarg:=none,defaults:=[] }
noncomputable def defBody (s:Stmt):List Stmt:=match s with
 | .FunctionDef _ _ b _ _ _ _ _ _ _=>b
 | _=>[]
noncomputable def defScope (s:Stmt):Scope:=match s with
 | .FunctionDef _ _ _ _ _ _ sc _ _ _=>sc
 | _=>{ kind:=.function,names:=[],isGenerator:=false,isCoroutine:=false }
noncomputable abbrev CX0:CXT:=fun _ _ _ _ _ _=>False
noncomputable abbrev E0:XK:=fun _ _ _=>False
theorem pass0 {X:Cx}:Passes CX0 X E0:=fun _ _ _ _ _ _ _ h=>h.elim
structure Fun (K:Fgg) (x qual:Str) (st:Stmt) (f:Addr) (fd:FuncData):Prop where
 ex:∃ (oc:Value) (od:Option Addr) (kV doc pm:Value) (an:Option Addr) (cdv ct:Value) (osl:Array (Option Value)),
  fd=PySem.W.fnOf x qual (defArgs st) (defBody st) (defScope st) .none kV doc pm an cdv ct∧K.lookup f=some ⟨oc,od,.func fd,osl⟩∧PySem.W.codeIn K cdv qual=true
 kp:PySem.W.keepIn K (.ref f)=true
section
variable {P:Program}{w:World}{K:Fgg}{mg:Str→Option Value}{base:Heap}
theorem Fun.ok {x qual:Str}{st:Stmt}{f:Addr}{fd:FuncData}{N ps:List Str}{k:Nat}{sp:Sp}(F:Fun K x qual st f fd) (S:FnScope N ps (defScope st)) (len:∀ vs H Q E,sp vs H Q E→vs.length=ps.length)
  (hbody:∀ (cdv:Value) (A:Around) (outer:List Env) (s:Shared) (H:Hp) (vs:List V) (Q:VK) (E:XK),Room k (A.deeper (envOfC qual (defScope st) s.heap.objs.size f cdv))→sp vs H Q E →
   ∃ t,PSs (cxOf CX0 P w K mg base N qual (defScope st) f cdv A outer s H E).nox (defBody st) t∧t { nx:=fun _ H'=>Q .non H',rt:=Q } (start N vs) H):FnOk P w K mg base CX0 (k+1) f fd ps sp:=by
 obtain ⟨oc,od,kV,doc,pm,an,cdv,ct,osl,rfl,lk,hcd⟩:=F.ex
 refine fn_of lk hcd S len fun A outer s H vs Q E hr hsp=>?_
 obtain ⟨t,h,q⟩:=hbody cdv A outer s H vs Q E hr hsp
 exact ⟨t,h.nox,q⟩
theorem Fun.binds {x qual:Str}{st:Stmt}{f:Addr}{fd:FuncData}{ps:List Str}(F:Fun K x qual st f fd)
  (h:∀ (kV doc pm:Value) (an:Option Addr) (cdv ct:Value) (us:List Value),us.length=ps.length→bindArgs (PySem.W.fnOf x qual (defArgs st) (defBody st) (defScope st) .none kV doc pm an cdv ct) ⟨us,[]⟩=pure (ps.zip us)):Binds K fd ps []:=by
 obtain ⟨oc,od,kV,doc,pm,an,cdv,ct,osl,rfl,lk,hcd⟩:=F.ex
 exact .all (h kV doc pm an cdv ct)
theorem zbD_ {x qual:Str}{st:Stmt}{f:Addr}{oc:Value}{od an:Option Addr}{osl:Array (Option Value)}{kV doc pm cdv ct:Value}(l:K.lookup f=some ⟨oc,od,.func (PySem.W.fnOf x qual (defArgs st) (defBody st) (defScope st) .none kV doc pm an cdv ct),osl⟩)
  (c:PySem.W.codeIn K cdv qual=true) (k:PySem.W.keepIn K (.ref f)=true):Fun K x qual st f (PySem.W.fnOf x qual (defArgs st) (defBody st) (defScope st) .none kV doc pm an cdv ct):=⟨⟨oc,od,kV,doc,pm,an,cdv,ct,osl,rfl,l,c⟩,k⟩
end
section
variable {X:Cx}
end
noncomputable def Same (H H':Hp):Prop:=∀ b o,H b=some o→H' b=some o
theorem Same.refl (H:Hp):Same H H:=fun _ _ h=>h
theorem Same.trans {H H1 H2:Hp}(a:Same H H1) (b:Same H1 H2):Same H H2:=fun c o h=>b c o (a c o h)
theorem Same.free {H H':Hp}(e:Same H H') {l:Addr}(h:H' l=Option.none):H l=Option.none:=by
 cases q:H l with
 | none=>rfl
 | some o =>
  rw [e l o q] at h
  cases h
theorem Same.seq {K:Fgg}{H H':Hp}{a:Addr}{xs:List V}(e:Same H H') (h:SqL K H a xs):SqL K H' a xs:=by
 rcases h with (h | ⟨o,h⟩) | h
 ·exact .inl (.inl (e _ _ h))
 ·exact .inl (.inr ⟨o,e _ _ h⟩)
 ·exact .inr h
end L2
namespace L2
open PySem PySem.Spec PyProof.Rows
noncomputable def Itp (n:Nat) (f:Nat→V):It:=⟨fun i _=>i<n,fun i H x H'=>H'=H∧x=f i,fun i _=>n≤i⟩
noncomputable def ownTups:List String:=["enumerate", "zip", "dict_itemiterator", "dict_reverseitemiterator", "odict_iterator", "itertools.zip_longest", "itertools.pairwise"]
theorem zhW_ {P:Program}{w:World}{K:Fgg}{tg:Expr}{it:Addr}{n:Nat}{f:Nat→V}{Pw:Nat→Value→Prop}{St:Nat→Heap→Prop}
  (W:∀ A:Around,A.handled=none→Walks P w A it [it] [it] n Pw St) (hv:∀ i v,i<n→Pw i v→RelV (f i) v)
  (ho:∀ i h,St i h→∃ o nm vs,h.get? it=some o∧o.cls=.type nm∧o.data=.fields vs∧ownTups.contains nm=false)
  (hself:∀ (A:Around) (i:Nat) (s:Shared) (Q:Value→Shared→Prop) (E:Value→Shared→Prop),St i s.heap→Q (.ref it) s→wpAny (model P w) A (pyIter (.ref it)) Q E s)
  (hkeep:∀ i h h',St i h→(∀ b∈[it],∀ o,h.get? b=some o→h'.get? b=some o)→St i h') :
  Turn P w K tg (Itp n f) [it] it (fun i h=>i≤n∧St i h) where
 mem:=by simp
 obj:=fun i h st b hb=>by
  have e:b=it:=by simpa using hb
  subst e
  obtain ⟨o,nm,vs,e,c,d,_⟩:=ho i h st.2
  exact ⟨o,e,fun v z=>by rw [d] at z; cases z⟩
 keep:=fun i h h' st k=>⟨st.1,hkeep i h h' st.2 k⟩
 item:=by
  intro X hP hw hK hc i pins s σ H E I hf st hg
  subst hP hw hK
  obtain ⟨f0,f1,f2,f3,f4,f5⟩:=hf it (by simp)
  have hi:i<n:=hg
  refine (W X.A (I.ok.hd hc)).item i s _ _ hi st.2 fun v h' tk hv' st' kk=>?_
  have I1:Inv X pins σ H { s with heap:=h',toks:=tk }:=I.turned (fun b o hb e=>kk b o (by simpa using hb) e) f0 f1 f3 f4 f5
  obtain ⟨o,nm,vs,e,c,d,hn⟩:=ho _ _ st'
  exact ⟨_,rfl,zlx_ (s:={ s with heap:=h',toks:=tk }) (n:=nm) e c d hn ⟨f i,H,I1,hv i v hi hv',⟨rfl,rfl⟩,⟨hi,st'⟩,fun b hb=>(hf b hb).1⟩⟩
 done:=by
  intro X hP hw hK hc i pins s σ H E I hf st hg
  subst hP hw hK
  obtain ⟨f0,f1,f2,f3,f4,f5⟩:=hf it (by simp)
  have hi:n≤i:=hg
  have e:i=n:=Nat.le_antisymm st.1 hi
  subst e
  exact (W X.A (I.ok.hd hc)).done s _ _ st.2 fun h' tk kk=>⟨rfl,I.turned (fun b o hb e=>kk b o (by simpa using hb) e) f0 f1 f3 f4 f5⟩
 self:=fun A i s Q E st h=>hself A i s Q E st.2 h
noncomputable def sgn (x:Str) (i:Nat):V:=.str ⟨#[x.cps.getD i 0]⟩
theorem zhS_ {P:Program}{w:World}{it:Addr}{x:Str}{t:Tok}(A:Around) (hA:A.handled=none):Walks P w A it [it] [it] x.cps.size (SignAt x) (fun i h=>h.IsStrIter it (strIterType x) x t i):=by
 cases ha:x.cps.all (·<128)
 ·have e:strIterType x = "str_iterator" := by simp [strIterType,ha]
  rw [e]; exact Walks.strWide hA it x t
 ·have e:strIterType x = "str_ascii_iterator" := by simp [strIterType,ha]
  rw [e]; exact Walks.strAscii hA it x t
theorem zg0_ {x:Str}{i:Nat}{v:Value}(h:SignAt x i v):RelV (sgn x i) v:=by
 obtain ⟨c,u,e,rfl⟩:=h
 refine ⟨u,?_⟩
 have:x.cps.getD i 0=c:=by simp [Array.getD_eq_getD_getElem?,e]
 rw [this]
theorem zdX_ (x:Str):ownTups.contains (strIterType x)=false:=by
 unfold strIterType; split<;>decide
theorem zjK_ {P:Program}{w:World}{K:Fgg}{tg:Expr}(it:Addr) (x:Str) (t:Tok):Turn P w K tg (Itp x.cps.size (sgn x)) [it] it (fun i h=>i≤x.cps.size∧h.IsStrIter it (strIterType x) x t i):=by
 refine zhW_ (Pw:=SignAt x) (fun A hA=>zhS_ A hA) (fun i v _ h=>zg0_ h) (fun i h st=>?_) (fun A i s Q E st h=>?_) (fun i h h' st k=>?_)
 ·obtain ⟨o,e,c,d⟩:=st
  exact ⟨o,_,_,e,c,d,zdX_ x⟩
 ·cases ha:x.cps.all (·<128)
  ·have e:strIterType x = "str_iterator" := by simp [strIterType,ha]
   rw [e] at st; exact wpAny_pyIter_striter_wide st h
  ·have e:strIterType x = "str_ascii_iterator" := by simp [strIterType,ha]
   rw [e] at st; exact wpAny_pyIter_striter_ascii st h
 ·obtain ⟨o,e,r⟩:=st
  exact ⟨o,k it (by simp) o e,r⟩
section
variable {X:Cx}{tg:Expr}
end
end L2
namespace L2
open PySem PySem.Spec PyProof.Rows
section
variable {X:Cx}{elts:List Expr}{kk:Nat}{tpos:Pos}
end
end L2
namespace L2
open PySem PySem.Spec PyProof.Rows
section
variable {prog:Program}{w:World}{A:Around}{R:Result→Shared→Prop}{s:Shared}
theorem zf8_ {elt target iter:Expr}{ifs:List Expr}{scope:Scope}{pos:Pos}{it acc:Value}{env:Env}(I:Nat→Shared→Prop)
  (turn:∀ n s,I n s→wpAny (model prog w) A (pyNext it) (fun r s₁=>match r with
   | none=>R (.ok .next) s₁
   | some v=>wpAny (model prog w) A (letOwnedTupleGo target it v) (fun _ s₂=>wpAny (model prog w) A (assign target env v) (fun _ s₃ =>
     wpAny (model prog w) A (forIn ifs true fun c r=>if r=true then do let ok ← isTrue c env (eval c env); pure (ForInStep.yield ok) else pure (ForInStep.yield r)) (fun ok s₄ =>
      if ok=true then wpAny (model prog w) A (eval elt env) (fun x s₅ =>
       wpAny (model prog w) A (call (.builtin "list.append") [acc,x]) (fun _ s₆=>∃ m,m<n∧I m s₆) (fun _ _=>False) s₅) (fun _ _=>False) s₄
      else ∃ m,m<n∧I m s₄) (fun _ _=>False) s₃) (fun _ _=>False) s₂) (fun _ _=>False) s₁) (fun _ _=>False) s)
  (n:Nat) (h:I n s) :
  codeAny (model prog w) A (.compLoop (.ListComp elt [⟨target,iter,ifs,0⟩] scope pos) 0 it acc env) R s:=by
 refine codeAny_loop rfl I (fun n s hI=>?_) n h
 show wpAny _ A ((compTurn (.ListComp elt [⟨target,iter,ifs,0⟩] scope pos) 0 it acc env).onRaise (fun x=>do noteFrame x env; theTreesLotGoes x)) _ _ s
 refine wpAny_noted ?_
 rw [compTurn_list]
 refine wpAny_bind (wpAny_standAt (wpAny_bind (wpAny_mono (turn n s hI) (fun r s₁ h₁=>?_) fun _ _ h'=>h'.elim)))
 cases r with
 | none=>exact wpAny_pure h₁
 | some v =>
  refine wpAny_bind (wpAny_mono h₁ (fun _ s₂ h₂=>?_) fun _ _ h'=>h'.elim)
  refine wpAny_bind (wpAny_mono h₂ (fun _ s₃ h₃=>wpAny_bind (wpAny_mono h₃ (fun ok s₄ h₄=>?_) fun _ _ h'=>h'.elim)) fun _ _ h'=>h'.elim)
  cases ok with
  | false=>exact wpAny_pure ⟨rfl,h₄⟩
  | true =>
   exact wpAny_bind (wpAny_bind (wpAny_mono h₄ (fun x s₅ h₅=>wpAny_bind (wpAny_mono h₅ (fun _ s₆ h₆=>wpAny_pure (wpAny_pure ⟨rfl,h₆⟩)) fun _ _ h'=>h'.elim)) fun _ _ h'=>h'.elim))
end
noncomputable def closeL (cells:List (Str×Addr)):List (Str×NameKind)→List (Str×Addr)→Option (List (Str×Addr))
 | [],acc=>some acc
 | (n,k)::r,acc=>if (k == .free)=true then (match cells.lookup n with | some c=>closeL cells r ((n,c)::acc) | none=>none) else closeL cells r acc
theorem zcV_ {env:Env}{f:Str×NameKind→List (Str×Addr)→Sem (ForInStep (List (Str×Addr)))}
  (hf:∀ n k cs,f (n,k) cs=if (k == NameKind.free)=true then (do let c ← cellOf env n; pure (ForInStep.yield ((n,c)::cs))) else pure (ForInStep.yield cs)) :
  ∀ (names:List (Str×NameKind)) (acc cl:List (Str×Addr)),closeL env.cells names acc=some cl→(forIn names acc f:Sem (List (Str×Addr)))=pure cl
 | [],acc,cl,h=>by cases h; rfl
 | (n,k)::r,acc,cl,h=>by
  rw [List.forIn_cons,hf]
  unfold closeL at h
  by_cases hk:(k == NameKind.free)=true
  ·rw [if_pos hk] at h
   rw [if_pos hk]
   cases hc:env.cells.lookup n with
   | none=>rw [hc] at h; cases h
   | some c =>
    rw [hc] at h
    have e:cellOf env n=pure c:=by unfold cellOf; rw [hc]
    rw [e]
    simp only [pure_bind]
    exact zcV_ hf r _ cl h
  ·rw [if_neg hk] at h
   rw [if_neg hk]
   simp only [pure_bind]
   exact zcV_ hf r _ cl h
theorem zfT_ {env:Env}{scope:Scope}{cl:List (Str×Addr)}(h:closeL env.cells scope.names []=some cl):closureFor scope env=pure cl:=by
 unfold closureFor
 dsimp only
 rw [zcV_ (env:=env) (fun n k cs=>rfl) scope.names [] cl h]
 rfl
theorem zcf_ {cells:List (Str×Addr)}:∀ (names:List (Str×NameKind)) (acc cl:List (Str×Addr)),closeL cells names acc=some cl→(∀ x c,acc.lookup x=some c→cells.lookup x=some c) →
  (∀ x c,cl.lookup x=some c→cells.lookup x=some c)
 | [],acc,cl,h,ha=>by cases h; exact ha
 | (n,k)::r,acc,cl,h,ha=>by
  unfold closeL at h
  by_cases hk:(k == NameKind.free)=true
  ·rw [if_pos hk] at h
   cases hc:cells.lookup n with
   | none=>rw [hc] at h; cases h
   | some c =>
    rw [hc] at h
    refine zcf_ r _ cl h fun x c' e=>?_
    rw [List.lookup_cons] at e
    cases hx:x == n with
    | true=>rw [hx] at e; cases e; rw [eq_of_beq hx]; exact hc
    | false=>rw [hx] at e; exact ha x c' e
  ·rw [if_neg hk] at h
   exact zcf_ r _ cl h ha
theorem zcS_ {cells:List (Str×Addr)}:∀ (names:List (Str×NameKind)) (acc cl:List (Str×Addr)),closeL cells names acc=some cl→∀ x,((x,NameKind.free)∈names∨∃ c,acc.lookup x=some c)→∃ c,cl.lookup x=some c
 | [],acc,cl,h,x,hx=>by
  cases h
  rcases hx with hx | hx
  ·cases hx
  ·exact hx
 | (n,k)::r,acc,cl,h,x,hx=>by
  unfold closeL at h
  by_cases hk:(k == NameKind.free)=true
  ·rw [if_pos hk] at h
   cases hc:cells.lookup n with
   | none=>rw [hc] at h; cases h
   | some c =>
    rw [hc] at h
    refine zcS_ r _ cl h x ?_
    rcases hx with hx | ⟨c',e⟩
    ·rcases List.mem_cons.mp hx with e | hx
     ·cases e; exact .inr ⟨c,by rw [List.lookup_cons,beq_self_eq_true]⟩
     ·exact .inl hx
    ·refine .inr ?_
     rw [List.lookup_cons]
     cases hxn:x == n with
     | true=>exact ⟨c,rfl⟩
     | false=>exact ⟨c',e⟩
  ·rw [if_neg hk] at h
   refine zcS_ r _ cl h x ?_
   rcases hx with hx | hx
   ·rcases List.mem_cons.mp hx with e | hx
    ·cases e; exact absurd rfl hk
    ·exact .inl hx
   ·exact .inr hx
theorem zdO_ {scope:Scope}{env:Env}{x:Str}{k:NameKind}(h:(relabel scope env).names.lookup x=some k) (hk:k=.cell∨k=.free) (hcell:∀ y∈scope.names,y.2≠.cell):(x,NameKind.free)∈scope.names:=by
 have m:=PySem.mem_of_lookup h
 obtain ⟨⟨n,k0⟩,hm,e⟩:=List.mem_map.mp m
 dsimp only at e
 split at e
 ·rename_i hc
  cases e
  have:k0=.free:=by
   simp only [Bool.and_eq_true,beq_iff_eq] at hc
   exact hc.1.1
  subst this; exact hm
 ·cases e
  rcases hk with rfl | rfl
  ·exact absurd rfl (hcell _ hm)
  ·exact hm
noncomputable def cxComp (X:Cx) (scope:Scope) (cl:List (Str×Addr)) (C:Addr) (N:List Str) (fp:List Addr) (s2:Shared) (H2:Hp):Cx where
 prog:=X.prog
 w:=X.w
 K:=X.K
 mg:=X.mg
 base:=X.base
 A:=X.A
 N:=N
 s₀:=s2
 H₀:=H2
 env:=compEnvC scope cl C X.env
 outer:=X.stack
 stack:=X.stack
 ex:=fp
 fn:=fun _=>false
 calm:=X.calm
 pn:=[]
 xe:=fun _ _=>False
structure CScope (X:Cx) (scope:Scope) (cl:List (Str×Addr)) (lv:List Str) (fr:List (Str×Nat)):Prop where
 clos:closeL X.env.cells scope.names []=some cl
 cell:∀ y∈scope.names,y.2≠.cell
 kind:scope.kind=.function
 names:∀ z∈scope.names,z.2=.local→scope.names.lookup z.1=some .local
 fr:∀ q∈fr,X.N[q.2]?=some q.1∧(q.1,NameKind.free)∈scope.names∧(X.env.kindOf q.1=some .cell∨X.env.kindOf q.1=some .free) ∧
  ((relabel scope X.env).names.lookup q.1=some .cell∨(relabel scope X.env).names.lookup q.1=some .free)
noncomputable def cN (lv:List Str) (fr:List (Str×Nat)):List Str:=lv++fr.map (·.1)
noncomputable def cS (lv:List Str) (fr:List (Str×Nat)) (σ:St):St:=lv.map (fun _=>none)++fr.map fun q=>(σ[q.2]?).join
theorem zjB_ {X:Cx}{pins:Pnn}{σ:St}{H2:Hp}{s2:Shared}{scope:Scope}{cl:List (Str×Addr)}{lv:List Str}{fr:List (Str×Nat)}{fp:List Addr}{h4:Heap}{tk:Nat}{m:Str→Option Value}{n:Nat}
  (I:Inv X pins σ H2 s2) (S:CScope X scope cl lv fr) (hf:∀ b∈fp,FpOk X pins H2 b) (hlt:∀ b∈fp,b<s2.heap.objs.size) (hC:h4.Ns (s2.heap.objs.size+1) m) (hD:h4.get? s2.heap.objs.size=some { cls:=.type "list",data:=.seq #[] n })
  (hk:∀ b o,s2.heap.get? b=some o→h4.get? b=some o) :
  Inv (cxComp X scope cl (s2.heap.objs.size+1) (cN lv fr) fp s2 H2) [] (cS lv fr σ) (upd H2 s2.heap.objs.size (.lst [])) { s2 with heap:=h4,toks:=tk }:=by
 have hcl:=zcf_ scope.names [] cl S.clos (fun x c e=>by cases e)
 have hhas:=zcS_ scope.names [] cl S.clos
 have hDn:H2 s2.heap.objs.size=none:=I.hok.fresh (Nat.le_refl _)
 have hCn:H2 (s2.heap.objs.size+1)=none:=I.hok.fresh (Nat.le_succ _)
 have hCD:s2.heap.objs.size+1≠s2.heap.objs.size:=Nat.ne_of_gt (Nat.lt_succ_self _)
 have fpC:∀ b∈fp,(b∈X.ex∨X.s₀.heap.objs.size≤b):=fun b hb=>(hf b hb).2.2.2.1
 have cellLt:∀ x c,cl.lookup x=some c→c<s2.heap.objs.size:=fun x c e=>by
  obtain ⟨v,o,ho,_⟩:=I.cell x c (hcl x c e)
  exact Heap.lt_size ho
 refine ⟨⟨I.ok.mod,S.kind,I.ok.glob,I.ok.blt,Nat.le_succ _,fun x y c h1 h2=>I.ok.inj x y c (hcl x c h1) (hcl y c h2),fun x hx=>?_,fun x c hfn=>(by cases hfn),I.ok.hd,I.ok.frames,.inl rfl,fun b hb=>?_,I.bs,Nat.le_trans I.ok.bsz I.sz,fun b o e hb=>?_,fun b hb z=>?_,I.stack,I.stkFree⟩,
  rfl,I.bare,?_,⟨m,hC,fun i x v h1 h2 h3=>?_⟩,fun x c e=>?_,?_,fun x c e=>?_,fun p hp=>absurd (show p∈([]:Pnn) from hp) (by simp),?_,?_⟩
 ·-- has
  have hx':(relabel scope X.env).names.lookup x=some .cell∨(relabel scope X.env).names.lookup x=some .free:=hx
  have hm:(x,NameKind.free)∈scope.names:=hx'.elim (fun z=>zdO_ z (.inl rfl) S.cell) fun z=>zdO_ z (.inr rfl) S.cell
  exact hhas x (.inl hm)
 ·-- exf
  obtain ⟨f0,f1,f2,f3,f4,f5⟩:=hf b hb
  refine ⟨fun z=>?_,fun x c e=>f4 x c (hcl x c e)⟩
  have z':b=s2.heap.objs.size+1:=z
  have:=hlt b hb
  rw [z'] at this
  exact absurd this (Nat.not_lt.mpr (Nat.le_succ _))
 ·rcases fpC b hb with z | z
  ·exact I.ok.noex b o e z
  ·exact absurd (Nat.lt_of_lt_of_le (Nat.lt_of_lt_of_le (Heap.lt_size e) I.ok.bsz) z) (Nat.lt_irrefl _)
 ·obtain ⟨f0,f1,f2,_⟩:=hf b hb
  rcases List.mem_cons.mp (I.stkSub b z) with q | q
  ·exact f1 q
  ·exact f2 q
 ·exact Un.laid hk (Nat.le_refl _) hDn
 ·-- loc
  have h1':(lv++fr.map (·.1))[i]?=some x:=h1
  have h2':(lv.map (fun _=>none)++fr.map fun q=>(σ[q.2]?).join:St)[i]?=some (some v):=h2
  by_cases hi:i<lv.length
  ·rw [List.getElem?_append_left (by simpa using hi),List.getElem?_map] at h2'
   cases hq:lv[i]? with
   | none=>rw [hq] at h2'; cases h2'
   | some z=>rw [hq] at h2'; cases h2'
  ·rw [List.getElem?_append_right (by simpa using hi),List.getElem?_map] at h2'
   rw [List.getElem?_append_right (by lia),List.getElem?_map] at h1'
   simp only [List.length_map] at h2'
   cases hq:fr[i-lv.length]? with
   | none=>rw [hq] at h1'; cases h1'
   | some q =>
    rw [hq] at h1' h2'
    have e1:q.1=x:=Option.some.inj h1'
    have e2:(σ[q.2]?).join=some v:=Option.some.inj h2'
    have e3:σ[q.2]?=some (some v):=by
     cases hz:σ[q.2]? with
     | none=>rw [hz] at e2; cases e2
     | some z=>rw [hz] at e2; exact congrArg some e2
    obtain ⟨g1,g2,g3,g4⟩:=S.fr q (List.mem_of_getElem? hq)
    obtain ⟨m0,hn0,hl0⟩:=I.loc
    have vis:Vis X.env.scope q.1:=by
     rcases g3 with g3 | g3
     ·exact .inr (.inl g3)
     ·exact .inr (.inr g3)
    obtain ⟨u,r,l⟩:=hl0 q.2 q.1 v g1 e3 vis
    refine ⟨u,r,.inr ⟨?_,?_⟩⟩
    ·rw [← e1]; exact g4
    ·rcases l with ⟨lk,_⟩ | ⟨_,c,ec,ic⟩
     ·rcases g3 with g3 | g3<;>(rw [lk] at g3; cases g3)
     ·obtain ⟨c',ec'⟩:=hhas q.1 (.inl g2)
      have:c'=c:=by
       have:=hcl q.1 c' ec'
       rw [ec] at this; exact (Option.some.inj this).symm
      subst this
      obtain ⟨o,ho,hd⟩:=ic
      exact ⟨c',by rw [← e1]; exact ec',o,hk _ _ ho,hd⟩
 ·obtain ⟨v,o,ho,hd⟩:=I.cell x c (hcl x c e)
  exact ⟨v,o,hk _ _ ho,hd⟩
 ·show upd H2 _ _ (s2.heap.objs.size+1)=none
  rw [zby_ hCD]; exact hCn
 ·have:=cellLt x c e
  rw [zby_ (Nat.ne_of_lt this)]
  exact I.freeC x c (hcl x c e)
 ·exact I.hok.laid hk (Nat.le_refl _) ⟨Nat.zero_le _,[],n,.nil,hD⟩
 ·show (cS lv fr σ).length=(cN lv fr).length
  simp [cS,cN]
end L2
namespace L2
open PySem PySem.Spec PyProof.Rows
noncomputable def PIf (X:Cx) (ifs:List Expr) (t:TT):Prop :=
 ∀ (pins:Pnn) (s:Shared) (σ:St) (H:Hp) (Q:Bool→Hp→Prop),Inv X pins σ H s→t σ H Q →
  wpAny (model X.prog X.w) X.A (forIn ifs true fun c r=>if r=true then do let ok ← isTrue c X.env (eval c X.env); pure (ForInStep.yield ok) else pure (ForInStep.yield r)) (TP X pins σ Q) X.xe s
noncomputable def tTrue:TT:=fun _ H Q=>Q true H
theorem zkD_ {X:Cx}:PIf X [] tTrue:=fun pins s σ H Q I h=>wpAny_tests_nil ⟨H,I,h⟩
theorem ziM_ {X:Cx}{c:Expr}{t:TT}(h:PT X c t):PIf X [c] t:=fun pins s σ H Q I hw=>wpAny_tests_one (h pins s σ H Q I hw)
noncomputable def tCompR (J:It) (g:TG) (tt:TT) (te:TE) (σ0:St) (H1:Hp) (Q:VK):Prop :=
 ∀ D,H1 D=none→∃ W:Nat→Nat→List V→St→Hp→Prop,(∃ m,W 0 m [] σ0 (upd H1 D (.lst [])))∧∀ i m ys σ H,W i m ys σ H →
  (J.stop i H∧Q (.ref D) H)∨(J.go i H∧∃ N:List V→St→Hp→Prop,(∀ ys' σ' H',N ys' σ' H'→∃ m',m'<m∧W (i+1) m' ys' σ' H') ∧
   ∀ x H',J.yld i H x H'→g x σ H' fun σ2 H2=>tt σ2 H2 fun b H3=>if b=true then te σ2 H3 fun v H4=>H4 D=some (.lst ys)∧ys.length<sizeLine∧N (ys++[v]) σ2 (upd H4 D (.lst (ys++[v]))) else N ys σ2 H3)
section
variable {X:Cx}{scope:Scope}{cl:List (Str×Addr)}{lv:List Str}{fr:List (Str×Nat)}{elt tg iter:Expr}{ifs:List Expr}{pos:Pos}{g:TG}{tt:TT}{te:TE}
theorem zes_ {pins:Pnn}{σ:St}{H2:Hp}{s2:Shared}{it:Addr}{fp:List Addr}{tn:Nat→Heap→Prop}{J:It}{Q:VK}{E:Value→Shared→Prop}{use:Option (Value→Sem Unit)}{Q':Value→Shared→Prop}
  (I:Inv X pins σ H2 s2) (S:CScope X scope cl lv fr) (T:Turn X.prog X.w X.K tg J fp it tn) (st:tn 0 s2.heap) (hf:∀ b∈fp,FpOk X pins H2 b) (hc:X.calm=true)
  (hg:∀ C fp s2 H2,PG (cxComp X scope cl C (cN lv fr) fp s2 H2) tg g) (ht:∀ C fp s2 H2,PIf (cxComp X scope cl C (cN lv fr) fp s2 H2) ifs tt) (he:∀ C fp s2 H2,PE (cxComp X scope cl C (cN lv fr) fp s2 H2) elt te)
  (hq:tCompR J g tt te (cS lv fr σ) H2 Q)
  (fin:∀ D C oC H' s',Inv X (pins++[(C,oC)]) σ H' s'→(∀ h:Heap,h.get? C=some oC→∃ m,h.Ns C m)→FpOk X pins H' C→Q (.ref D) H'→compPost (model X.prog X.w) X.A E use Q' (.ref D) C (.ok .next) s') :
  wpAny (model X.prog X.w) X.A (newList []) (fun acc s₃=>wpAny (model X.prog X.w) X.A (newFunctionEnv scope X.env.globals cl [] X.env.qual none .none (some X.env)) (fun cenv s₄ =>
   codeAny (model X.prog X.w) X.A (.compStart (.ListComp elt [⟨tg,iter,ifs,0⟩] scope pos) 0 (.ref it) acc { cenv with scope:=relabel scope X.env }) (compPost (model X.prog X.w) X.A E use Q' acc cenv.locals) s₄) E s₃) E s2:=by
 have hlt:∀ b∈fp,b<s2.heap.objs.size:=fun b hb=>by
  obtain ⟨o,ho,_⟩:=T.obj 0 _ st b hb
  exact Heap.lt_size ho
 refine wpAny_newList (wpAny_newFunctionEnv S.cell (by intro y hy; simp at hy) (fun h₁ hns₁ hsb₁=>?_) S.kind)
 dsimp only at hns₁ hsb₁ ⊢
 have hsz:(s2.heap.push { cls:=.type "list",data:=.seq ([]:List Value).toArray }).objs.size=s2.heap.objs.size+1:=Heap.size_push ..
 rw [hsz] at hns₁ hsb₁ ⊢
 have old:∀ b o,s2.heap.get? b=some o→h₁.get? b=some o:=fun b o e=>hsb₁.extBut b o (Nat.ne_of_lt (Nat.lt_succ_of_lt (Heap.lt_size e))) (Heap.get?_push_of_some _ (Heap.get?_push_of_some _ e))
 have hacc:h₁.get? s2.heap.objs.size=some { cls:=.type "list",data:=.seq #[] }:=hsb₁.extBut _ _ (Nat.ne_of_lt (Nat.lt_succ_self _)) (Heap.get?_push_of_some _ (Heap.get?_push_size _ rfl))
 have I4:Inv (cxComp X scope cl (s2.heap.objs.size+1) (cN lv fr) fp s2 H2) [] (cS lv fr σ) (upd H2 s2.heap.objs.size (.lst [])) { s2 with heap:=h₁,toks:=s2.toks+([]:List (Str×Value)).length } :=
  zjB_ I S hf hlt hns₁ hacc old
 generalize hX':cxComp X scope cl (s2.heap.objs.size+1) (cN lv fr) fp s2 H2=X' at I4
 have eP:X'.prog=X.prog:=by rw [← hX']; rfl
 have ew:X'.w=X.w:=by rw [← hX']; rfl
 have eK:X'.K=X.K:=by rw [← hX']; rfl
 have eA:X'.A=X.A:=by rw [← hX']; rfl
 have ec:X'.calm=true:=by rw [← hX']; exact hc
 have ex:X'.xe=fun _ _=>False:=by rw [← hX']; rfl
 have een:X'.env=compEnvC scope cl (s2.heap.objs.size+1) X.env:=by rw [← hX']; rfl
 have hg':PG X' tg g:=hX' ▸ hg _ _ _ _
 have ht':PIf X' ifs tt:=hX' ▸ ht _ _ _ _
 have he':PE X' elt te:=hX' ▸ he _ _ _ _
 obtain ⟨W,⟨m0,w0⟩,turn⟩:=hq s2.heap.objs.size (I.hok.fresh (Nat.le_refl _))
 have st1:tn 0 h₁:=T.keep _ _ _ st fun b _ o e=>old b o e
 have f4:∀ b∈fp,FpOk X' [] (upd H2 s2.heap.objs.size (.lst [])) b:=fun b hb=>by
  obtain ⟨f0,f1,f2,f3,f4,f5⟩:=hf b hb
  have:=hlt b hb
  refine ⟨?_,?_,?_,.inl ?_,?_,?_⟩
  ·rw [zby_ (Nat.ne_of_lt this)]; exact f0
  ·rw [een]; exact Nat.ne_of_lt (Nat.lt_succ_of_lt this)
  ·intro z
   have z':b∈frs X.stack:=by rw [← hX'] at z; exact z
   rcases List.mem_cons.mp (I.stkSub b z') with q | q
   ·exact f1 q
   ·exact f2 q
  ·rw [← hX']; exact hb
  ·intro x c e
   rw [een] at e
   exact f4 x c (zcf_ scope.names [] cl S.clos (fun x c e=>by cases e) x c e)
  ·intro p hp
   rw [← hX'] at hp
   exact absurd (show p∈([]:Pnn) from hp) (by simp)
 have stat:∀ {H':Hp},(∀ b∈fp,H' b=none)→∀ b∈fp,FpOk X' [] H' b:=fun hn b hb=>⟨hn b hb,(f4 b hb).2⟩
 have loop:∀ s₃:Shared,s₃={ s2 with heap:=h₁,toks:=s2.toks+([]:List (Str×Value)).length } →
   codeAny (model X.prog X.w) X.A (.compLoop (.ListComp elt [⟨tg,iter,ifs,0⟩] scope pos) 0 (.ref it) (.ref s2.heap.objs.size) (compEnvC scope cl (s2.heap.objs.size+1) X.env))
    (compPost (model X.prog X.w) X.A E use Q' (.ref s2.heap.objs.size) (s2.heap.objs.size+1)) s₃:=by
  rintro s₃ rfl
  refine zf8_ (fun n s'=>∃ i ys σ' H',Inv X' [] σ' H' s'∧tn i s'.heap∧(∀ b∈fp,H' b=none)∧W i n ys σ' H') ?_ m0 ⟨0,[],_,_,I4,st1,fun b hb=>(f4 b hb).1,w0⟩
  rintro n s3 ⟨i,ys,σ3,H3,I3,st3,fr3,w3⟩
  rcases turn i n ys σ3 H3 w3 with ⟨stop,qn⟩ | ⟨go,N,hN,step⟩
  ·have a0:=T.done X' eP ew eK ec i [] s3 σ3 H3 (fun _ _=>False) I3 (stat fr3) st3 stop
   rw [eA] at a0
   refine thn a0 fun r s4 ⟨hr,I4'⟩=>?_
   subst hr
   have un:Un (frs X.stack) fp H2 H3 s2.heap s4.heap:=by
    have:=I4'.base
    rw [← hX'] at this
    exact this
   have os:s4.os=s2.os:=by
    have:=I4'.os
    rw [← hX'] at this
    exact this
   have hok:HOk X.prog X.w H3 s4.heap:=by
    have:=I4'.hok
    rw [← hX'] at this
    exact this
   have J1:Inv X pins σ H3 s4:=I.call' os un hok I4'.bare fun b hb=>by
    obtain ⟨f0,f1,f2,f3,f4,f5⟩:=hf b hb
    exact ⟨f3,f1,f4,f5⟩
   obtain ⟨m,hn,_⟩:=I4'.loc
   have hn':s4.heap.Ns (s2.heap.objs.size+1) m:=by rw [een] at hn; exact hn
   have hCn:H3 (s2.heap.objs.size+1)=none:=by
    have:=I4'.free
    rw [een] at this; exact this
   have fC:FpOk X pins H3 (s2.heap.objs.size+1):=I.fpOk (Nat.le_succ _) hCn
   obtain ⟨oC,es,ep,hoC,hdC,rC⟩:=id hn'
   have J2:Inv X (pins++[(s2.heap.objs.size+1,oC)]) σ H3 s4:=J1.pins_of fun p hp=>by
    rcases List.mem_append.mp hp with hp | hp
    ·exact J1.pin p (List.mem_append_right _ hp)
    ·have e:p=(s2.heap.objs.size+1,oC):=by simpa using hp
     subst e
     exact ⟨hoC,hCn,fC.2.1,fC.2.2.1,fun v z=>by rw [hdC] at z; cases z⟩
   exact fin _ _ oC H3 s4 J2 (fun h e=>⟨m,oC,es,ep,e,hdC,rC⟩) fC qn
  ·have a0:=T.item X' eP ew eK ec i [] s3 σ3 H3 (fun _ _=>False) I3 (stat fr3) st3 go
   rw [eA] at a0
   refine thn a0 fun r s4 ⟨u,hr,h4⟩=>?_
   subst hr
   refine thn h4 fun _ s5 ⟨x,H5,I5,r5,y5,st5,fr5⟩=>?_
   have I5':=I5.pinned (stat fr5) (T.obj _ _ st5)
   have a1:=hg' _ s5 σ3 H5 x u _ I5' r5 (step x H5 y5)
   rw [eP,ew,eA,een,ex] at a1
   refine thn a1 fun _ s6 ⟨σ6,H6,I6,q6⟩=>?_
   have a2:=ht' _ s6 σ6 H6 _ I6 q6
   rw [eP,ew,eA,een,ex] at a2
   refine thn a2 fun ok s7 ⟨H7,I7,q7⟩=>?_
   have again:∀ {ys7:List V}{H7:Hp}{s7:Shared},Inv X' ([]++pinsAt fp s5.heap) σ6 H7 s7→N ys7 σ6 H7→∃ m,m<n∧∃ i ys σ' H',Inv X' [] σ' H' s7∧tn i s7.heap∧(∀ b∈fp,H' b=none)∧W i m ys σ' H':=fun {ys7 H7 s7} I7 n7=>by
    obtain ⟨m',hm,w7⟩:=hN ys7 σ6 H7 n7
    refine ⟨m',hm,i+1,ys7,σ6,H7,I7.unpinned,T.keep _ _ _ st5 fun b hb o e=>(I7.pin (b,o) (List.mem_append_right _ (List.mem_append_right _ (zcn_ hb e)))).1,fun b hb=>?_,w7⟩
    obtain ⟨o,e,d⟩:=T.obj _ _ st5 b hb
    exact (I7.pin (b,o) (List.mem_append_right _ (List.mem_append_right _ (zcn_ hb e)))).2.1
   cases ok with
   | false=>exact again I7 q7
   | true =>
    have a3:=he' _ s7 σ6 H7 _ I7 q7
    rw [eP,ew,eA,een,ex] at a3
    refine thn a3 fun y s8 ⟨v,H8,I8,r8,hD8,hl8,n8⟩=>?_
    have a4:=zcQ_ (X:=X') _ s8 σ6 H8 (.ref s2.heap.objs.size) [v] (.ref s2.heap.objs.size) [y] (fun _ H9=>N (ys++[v]) σ6 H9) I8 rfl (.cons r8 .nil) ⟨_,_,_,rfl,rfl,hD8,hl8,n8⟩
    rw [eP,ew,eA,ex] at a4
    refine thn a4 fun _ s9 ⟨v9,H9,I9,_,n9⟩=>?_
    exact again I9 n9
 exact codeAny_compStart_list (loop _ rfl) (T.self _ 0 _ _ _ st1 (loop _ rfl))
noncomputable def tComp (lv:List Str) (fr:List (Str×Nat)) (wi:TI) (g:TG) (tt:TT) (te:TE):TE:=fun σ H Q=>wi σ H fun J H1=>tCompR J g tt te (cS lv fr σ) H1 Q
theorem zi3_ {wi:TI}(hc:X.calm=true) (S:CScope X scope cl lv fr) (hi:PI X tg iter wi)
  (hg:∀ C fp s2 H2,PG (cxComp X scope cl C (cN lv fr) fp s2 H2) tg g) (ht:∀ C fp s2 H2,PIf (cxComp X scope cl C (cN lv fr) fp s2 H2) ifs tt) (he:∀ C fp s2 H2,PE (cxComp X scope cl C (cN lv fr) fp s2 H2) elt te)
  (hs:∀ x,foldedSetIterable iter X.env x=pure x:=by intro _; rfl):PE X (.ListComp elt [⟨tg,iter,ifs,0⟩] scope pos) (tComp lv fr wi g tt te):=by
 intro pins s σ H Q I h
 rw [eval_ListComp]
 refine wpAny_comprehension_free (use:=none) rfl hs (zfT_ S.clos) S.kind S.names ?_
 refine thn (hi pins s σ H _ I h) fun v s1 h1=>thn h1 fun itv s2 h2=>?_
 obtain ⟨it,fp,tn,J,H2,e,I2,T,st2,f2,q⟩:=h2
 subst e
 refine zes_ I2 S T st2 f2 hc hg ht he q fun D C oC H' s' J1 hNs fC qD=>?_
 have hp:=J1.pin (C,oC) (List.mem_append_right _ (List.mem_append_right _ (List.mem_singleton.mpr rfl)))
 obtain ⟨m,hm⟩:=hNs s'.heap hp.1
 refine ⟨m,hm,fun h' hs'=>?_⟩
 exact ⟨.ref D,H',J1.unpinned.turned (t':=s'.toks) (fun b o hb e=>(hs'.2 b hb).trans e) fC.1 fC.2.1 fC.2.2.2.1 fC.2.2.2.2.1 fC.2.2.2.2.2,rfl,qD⟩
theorem zg3_ {wi:TI}{j:Nat}{y:Str}{py spos:Pos}(hc:X.calm=true) (S:CScope X scope cl lv fr) (hi:PI X tg iter wi)
  (hg:∀ C fp s2 H2,PG (cxComp X scope cl C (cN lv fr) fp s2 H2) tg g) (ht:∀ C fp s2 H2,PIf (cxComp X scope cl C (cN lv fr) fp s2 H2) ifs tt) (he:∀ C fp s2 H2,PE (cxComp X scope cl C (cN lv fr) fp s2 H2) elt te)
  (hy:PG X (.Name y py) (gName j))
  (hsw:swapsWith (.ListComp elt [⟨tg,iter,ifs,0⟩] scope pos) (some (.Name y py)) spos.line X.env=pure true:=by rfl)
  (hs:∀ x,foldedSetIterable iter X.env x=pure x:=by intro _; rfl):PS X (.Assign [.Name y py] (.ListComp elt [⟨tg,iter,ifs,0⟩] scope pos) spos) (tAsg (tComp lv fr wi g tt te) (gName j)):=by
 intro pins s σ H D I h
 rw [exec_Assign_Name_used _ _ _ _ hsw]
 refine wpAny_bind (wpAny_standAt (wpAny_bind ?_))
 show wpAny _ X.A (do let _ ← comprehension (.ListComp elt [⟨tg,iter,ifs,0⟩] scope pos) scope X.env _ (newList []) false (eval iter X.env) (some (assign (.Name y py) X.env))) _ _ s
 refine wpAny_bind (wpAny_mono (wpAny_comprehension_free (use:=some (assign (.Name y py) X.env)) (Q:=fun _ s'=>SP X pins D .next s') rfl hs (zfT_ S.clos) S.kind S.names ?_) (fun _ s' hq=>wpAny_pure (wpAny_pure hq)) fun _ _ e=>e)
 refine thn (hi pins s σ H _ I h) fun v s1 h1=>thn h1 fun itv s2 h2=>?_
 obtain ⟨it,fp,tn,J,H2,e,I2,T,st2,f2,q⟩:=h2
 subst e
 refine zes_ I2 S T st2 f2 hc hg ht he q fun D' C oC H' s' J1 hNs fC qD=>?_
 show wpAny _ X.A (assign (.Name y py) X.env (.ref D')) _ _ _
 refine thn (hy _ s' σ H' (.ref D') (.ref D') _ J1 rfl qD) fun _ s3 ⟨σ3,H3,I3,q3⟩=>?_
 have hp:=I3.pin (C,oC) (List.mem_append_right _ (List.mem_append_right _ (List.mem_singleton.mpr rfl)))
 obtain ⟨m,hm⟩:=hNs s3.heap hp.1
 refine ⟨m,hm,fun h' hs'=>?_⟩
 have fC':FpOk X pins H3 C:=⟨hp.2.1,fC.2⟩
 exact ⟨σ3,H3,I3.unpinned.turned (t':=s3.toks) (fun b o hb e=>(hs'.2 b hb).trans e) fC'.1 fC'.2.1 fC'.2.2.2.1 fC'.2.2.2.2.1 fC'.2.2.2.2.2,q3⟩
end
end L2
namespace L2
open PySem PySem.Spec PyProof.Rows
noncomputable abbrev tx (l:List Nat):V:=.str ⟨l.toArray⟩
noncomputable def br (b:Bool) (A B:Prop):Prop:=(b=true→A)∧(b=false→B)
theorem zkL_ (a b:Str):a++b=⟨(a.cps.toList++b.cps.toList).toArray⟩:=by
 cases a; cases b
 show Str.mk (_++_)=_
 simp
theorem zch_ (a:Str):a=⟨a.cps.toList.toArray⟩:=by cases a; simp
noncomputable def cutL (l:List Nat) (lo hi:Option Int):List Nat:=(l.drop (HT.sIx l.length 0 lo)).take (HT.sIx l.length l.length hi-HT.sIx l.length 0 lo)
theorem zc7_ (lo hi:Option Int) (n:Nat):Builtin.Str.strSliceIndices lo hi 1 n=sliceRange ((HT.sIx n 0 lo:Nat):Int) ((HT.sIx n n hi:Nat):Int) 1:=by
 unfold Builtin.Str.strSliceIndices
 simp only [show (1:Int) > 0 by decide,if_true]
 congr 1
 ·cases lo with
  | none=>simp [HT.sIx]
  | some i =>
   simp only [HT.sIx]
   by_cases h:i<0
   ·simp only [h,if_true]<;>lia
   ·simp only [h,if_false]<;>lia
 ·cases hi with
  | none=>simp [HT.sIx]
  | some i =>
   simp only [HT.sIx]
   by_cases h:i<0
   ·simp only [h,if_true]<;>lia
   ·simp only [h,if_false]<;>lia
theorem zhb_ (x:Str) (lo hi:Option Int):(Builtin.Str.strSliceIndices lo hi 1 x.length).filterMap (x.cps[·]?)=cutL x.cps.toList lo hi:=by
 rw [zc7_,sliceRange_one,pick_run]
 unfold cutL Str.length
 simp only [Array.length_toList]
theorem zdT_ (l:List Nat) (lo hi:Option Int):(cutL l lo hi).length≤l.length:=by
 unfold cutL
 rw [List.length_take,List.length_drop]
 lia
theorem zhZ_ {l:List Nat}{lo hi:Option Int}(h:(cutL l lo hi).length=l.length):cutL l lo hi=l:=by
 unfold cutL at h ⊢
 rw [List.length_take,List.length_drop] at h
 have h1:HT.sIx l.length l.length hi≤l.length:=HT.sIx_le _ _ (Nat.le_refl _) _
 by_cases hl:l.length=0
 ·have:l=[]:=List.length_eq_zero_iff.mp hl
  subst this
  simp
 ·have h2:HT.sIx l.length 0 lo=0:=by lia
  rw [h2,List.drop_zero,List.take_of_length_le]
  lia
section
variable {X:Cx}
noncomputable def rSlS:V→Option Int→Option Int→Hp→VK→Prop:=fun x lo hi H Q=>match x with | .str z=>z.length≤sizeLine∧Q (tx (cutL z.cps.toList lo hi)) H | _=>False
theorem zc8_ {v:Value}{o:Option Int}(p:IsPart v o):∃ l:Option (Int×Tok),v=partValue l∧l.map (·.1)=o:=by
 cases p with
 | none=>exact ⟨none,rfl,rfl⟩
 | int i t=>exact ⟨some (i,t),rfl,rfl⟩
theorem zlY_:SlR X rSlS:=by
 intro pins s σ H x v vl vu lo hi sl Q I rx hs pl pu h
 cases x with
 | str z =>
  obtain ⟨hz,q⟩:=h
  obtain ⟨t,rfl⟩:=rx
  obtain ⟨l,rfl,rfl⟩:=zc8_ pl
  obtain ⟨u,rfl,rfl⟩:=zc8_ pu
  refine ⟨"str",_,F.slot_str_getitem.lookup,typeIs_str _ _ _,?_⟩
  refine wpAny_getItem_str_slice (l:=l) (u:=u) (st:=none) hs rfl ?_
  unfold sliceMade
  have e:slicePicked z l u none=Builtin.Str.strSliceIndices (l.map (·.1)) (u.map (·.1)) 1 z.length:=rfl
  rw [e]
  have hlen:(Builtin.Str.strSliceIndices (l.map (·.1)) (u.map (·.1)) 1 z.length).length=(cutL z.cps.toList (l.map (·.1)) (u.map (·.1))).length:=by
   rw [zc7_,sliceRange_one,List.length_map,List.length_range]
   unfold cutL
   rw [List.length_take,List.length_drop]
   have h1:HT.sIx z.length z.length (u.map (·.1))≤z.length:=HT.sIx_le _ _ (Nat.le_refl _) _
   have h2:z.cps.toList.length=z.length:=by simp [Str.length]
   rw [h2]
   lia
  split
  ·rename_i hc
   have hc':(cutL z.cps.toList (l.map (·.1)) (u.map (·.1))).length=z.cps.toList.length:=by
    rw [← hlen]
    simpa [Str.length] using hc
   rw [zhZ_ hc'] at q
   have q':Q (.str z) H:=by rw [zch_ z]; exact q
   exact ⟨.str z,H,I,⟨_,rfl⟩,q'⟩
  ·rw [zhb_]
   have h3:=zdT_ z.cps.toList (l.map (·.1)) (u.map (·.1))
   have h2:z.cps.toList.length=z.length:=by simp [Str.length]
   refine ⟨?_,tx (cutL z.cps.toList (l.map (·.1)) (u.map (·.1))),H,I.tok _,⟨_,rfl⟩,q⟩
   show (cutL z.cps.toList (l.map (·.1)) (u.map (·.1))).toArray.size≤sizeLine
   rw [List.size_toArray]
   exact Nat.le_trans h3 (by rw [h2]; exact hz)
 | _=>exact h.elim
end
end L2
namespace L2
open PySem PySem.Spec PyProof.Rows
noncomputable def mVar (i:Nat):TE:=fun σ H Q=>match σ[i]? with | some (some v)=>Q v H | _=>False
section
variable {X:Cx}{a b c:Expr}{ta tb tc:TE}{pos:Pos}
theorem za_ (i:Nat) {x:Str}{pos:Pos}(hN:X.N[i]?=some x:=by rfl) (hv:Vis X.env.scope x:=by first | exact Or.inl rfl | exact Or.inr (Or.inl rfl) | exact Or.inr (Or.inr rfl)) (hd:(x == ("__debug__" : Str))=false:=by decide)
  (hcd:(x == ("__classdict__" : Str))=false:=by decide):PE X (.Name x pos) (mVar i):=by
 intro pins s σ H Q I h
 unfold mVar at h
 cases e:σ[i]? with
 | none=>rw [e] at h; exact h.elim
 | some o =>
  rw [e] at h
  cases o with
  | none=>exact h.elim
  | some v=>exact zlK_ hN hv hd hcd pins s σ H Q I ⟨v,e,h⟩
theorem zck_ {x:Str}{l:List Nat}{j pos} (h:x=⟨l.toArray⟩:=by rfl):PE X (.Constant (.str x) j pos) (tC (tx l)):=h ▸ zlG_
noncomputable def mAdd:R2:=fun x y H Q=>match x,y with
 | .int i,.int j=>Q (.int (i+j)) H
 | .str a,.str b=>a.cps.toList.length+b.cps.toList.length≤sizeLine∧Q (tx (a.cps.toList++b.cps.toList)) H
 | .ref a,.ref b=>∃ xs zs,H a=some (.lst xs)∧H b=some (.lst zs)∧xs.length+zs.length≤sizeLine∧∀ p,H p=none→Q (.ref p) (upd H p (.lst (xs++zs)))
 | _,_=>False
theorem zG_:OpR X (binaryOp .Add) mAdd:=by
 intro pins s σ H x y v u Q I rx ry h
 cases x<;>cases y<;>first
  | exact h.elim
  | exact zmo_ pins s σ H _ _ v u Q I rx ry ⟨_,_,rfl,rfl,h⟩
  | exact zhh_ pins s σ H _ _ v u Q I rx ry ⟨_,_,rfl,rfl,by simpa [Str.length] using h.1,by rw [zkL_]; exact h.2⟩
  | (obtain ⟨xs,zs,h1,h2,h3,h4⟩:=h; exact zl1_ pins s σ H _ _ v u Q I rx ry ⟨_,_,xs,zs,rfl,rfl,h1,h2,h3,h4⟩)
noncomputable def mI (C:Int→Int→Prop) (g:Int→Int→V):R2:=fun x y H Q=>match x,y with | .int i,.int j=>C i j∧Q (g i j) H | _,_=>False
noncomputable def mI0 (g:Int→Int→V):R2:=fun x y H Q=>match x,y with | .int i,.int j=>Q (g i j) H | _,_=>False
theorem opM {f:Value→Value→Sem Value}{C:Int→Int→Prop}{g:Int→Int→V}(h:OpR X f (rI C g)):OpR X f (mI C g):=by
 intro pins s σ H x y v u Q I rx ry q
 cases x<;>cases y<;>first | exact q.elim | exact h pins s σ H _ _ v u Q I rx ry ⟨_,_,rfl,rfl,q.1,q.2⟩
theorem opM0 {f:Value→Value→Sem Value}{g:Int→Int→V}(h:OpR X f (rI0 g)):OpR X f (mI0 g):=by
 intro pins s σ H x y v u Q I rx ry q
 cases x<;>cases y<;>first | exact q.elim | exact h pins s σ H _ _ v u Q I rx ry ⟨_,_,rfl,rfl,q⟩
noncomputable abbrev mSub:R2:=mI0 fun i j=>.int (i-j)
noncomputable abbrev mMod:R2:=mI (fun _ j=>0<j) fun i j=>.int (i % j)
theorem zfR_:OpR X (binaryOp .Sub) mSub:=opM0 zlP_
theorem zbF_:OpR X (binaryOp .Mod) mMod:=opM zmC_
noncomputable def mEqB (x y:V):Option Bool:=match x,y with
 | .int i,.int j=>some (decide (i=j))
 | .str a,.str b=>some (decide (a.cps.toList=b.cps.toList))
 | .bl a,.bl b=>some (decide (a=b))
 | .non,.non=>some true
 | .non,.int _=>some false | .int _,.non=>some false | .non,.bl _=>some false | .bl _,.non=>some false | .non,.str _=>some false | .str _,.non=>some false
 | .int _,.str _=>some false | .str _,.int _=>some false | .bl _,.str _=>some false | .str _,.bl _=>some false
 | _,_=>none
theorem zhm_ {x y:V}{b:Bool}(h:mEqB x y=some b):scal x y=true∧decide (x=y)=b:=by
 cases x<;>cases y<;>first
  | (simp [mEqB] at h; done)
  | (refine ⟨rfl,?_⟩; have h':=Option.some.inj h; rw [← h']; first | rfl | (simp; done))
  | (rename_i a b'
     refine ⟨rfl,?_⟩
     have h':=Option.some.inj h
     rw [← h',decide_eq_decide]
     constructor
     ·intro e; cases e; rfl
     ·intro e; rw [zch_ a,zch_ b',e])
noncomputable def mEq:R2:=fun x y H Q=>match mEqB x y with | some b=>Q (.bl b) H | none=>False
noncomputable def mNe:R2:=fun x y H Q=>match mEqB x y with | some b=>Q (.bl (!b)) H | none=>False
theorem zmu_:OpR X (compareOp .Eq) mEq:=by
 intro pins s σ H x y v u Q I rx ry h
 unfold mEq at h
 cases e:mEqB x y with
 | none=>rw [e] at h; exact h.elim
 | some b =>
  rw [e] at h
  obtain ⟨h1,h2⟩:=zhm_ e
  exact op_eq pins s σ H x y v u Q I rx ry ⟨h1,by rw [h2]; exact h⟩
theorem zlM_:OpR X (compareOp .NotEq) mNe:=by
 intro pins s σ H x y v u Q I rx ry h
 unfold mNe at h
 cases e:mEqB x y with
 | none=>rw [e] at h; exact h.elim
 | some b =>
  rw [e] at h
  obtain ⟨h1,h2⟩:=zhm_ e
  exact op_ne pins s σ H x y v u Q I rx ry ⟨h1,by rw [h2]; exact h⟩
noncomputable abbrev mGt:R2:=mI0 fun i j=>.bl (decide (j<i))
noncomputable abbrev mGe:R2:=mI0 fun i j=>.bl (decide (j≤i))
theorem zkC_:OpR X (compareOp .Gt) mGt:=opM0 op_gt
theorem zmh_:OpR X (compareOp .GtE) mGe:=opM0 op_ge
noncomputable def mIsB (x y:V):Option Bool:=match y with
 | .non=>some (decide (x=.non))
 | .bl b=>(match x with | .bl a=>some (decide (a=b)) | _=>none)
 | _=>none
noncomputable def mIs:R2:=fun x y H Q=>match mIsB x y with | some b=>Q (.bl b) H | none=>False
theorem zjz_ {M:Model}{A:Around}{E:Value→Shared→Prop}{s:Shared}{a b:Bool}{Q:Value→Shared→Prop}(h:Q (.bool (decide (a=b))) s):wpAny M A (compareOp .Is (.bool a) (.bool b)) Q E s:=by
 cases a<;>cases b<;>exact wpAny_pure h
theorem zer_:OpR X (compareOp .Is) mIs:=by
 intro pins s σ H x y v u Q I rx ry h
 unfold mIs mIsB at h
 cases y with
 | non=>exact zlL_ pins s σ H x _ v u Q I rx ry ⟨rfl,h⟩
 | bl b =>
  cases x with
  | bl a=>cases rx; cases ry; exact zjz_ ⟨.bl _,H,I,rfl,h⟩
  | _=>exact h.elim
 | _=>exact h.elim
noncomputable def inS (l:List Nat) (t:List Nat):Bool:=match l with | [c]=>decide (c∈t) | _=>!(Builtin.Str.occurrences ⟨t.toArray⟩ ⟨l.toArray⟩ 0 t.length 1).isEmpty
theorem zkg_ (a b:Str):(!(Builtin.Str.occurrences b a 0 b.length 1).isEmpty)=inS a.cps.toList b.cps.toList:=by
 have e:b.length=b.cps.toList.length:=by simp [Str.length]
 unfold inS
 split
 ·rename_i c hc
  have ea:a=⟨#[c]⟩:=by rw [zch_ a,hc]
  rw [ea]
  exact StrLaws.found_one b c
 ·rw [← zch_,← zch_,e]
noncomputable def mIn (K:Fgg) (neg:Bool):R2:=fun x y H Q=>match y with
 | .str b=>(match x with | .str a=>Q (.bl (if neg then !inS a.cps.toList b.cps.toList else inS a.cps.toList b.cps.toList)) H | _=>False)
 | .ref p=>∃ xs,(SqL K H p xs∨SqT K H p xs)∧flatV x=true∧xs.all flatV=true∧Q (.bl (if neg then !inV x xs else inV x xs)) H
 | _=>False
theorem zcN_:OpR X (compareOp .NotIn) (mIn X.K true):=by
 intro pins s σ H x y v u Q I rx ry h
 unfold mIn at h
 cases y with
 | str b =>
  cases x with
  | str a=>exact zfc_ pins s σ H _ _ v u Q I rx ry ⟨_,_,rfl,rfl,by rw [zkg_]; exact h⟩
  | _=>exact h.elim
 | ref p =>
  obtain ⟨xs,h1,h2,h3,h4⟩:=h
  exact zfv_ pins s σ H _ _ v u Q I rx ry ⟨_,xs,rfl,h1,h2,h3,h4⟩
 | _=>exact h.elim
noncomputable def mTest (t:TE):TT:=fun σ H Q=>t σ H fun x H'=>match x with | .bl k=>Q k H' | _=>False
noncomputable def mAndV (ta tb:TE):TE:=fun σ H Q=>ta σ H fun x H1=>match x with | .bl c=>br c (tb σ H1 Q) (Q (.bl false) H1) | _=>False
noncomputable def mOrV (ta tb:TE):TE:=fun σ H Q=>ta σ H fun x H1=>match x with | .bl c=>br c (Q (.bl true) H1) (tb σ H1 Q) | _=>False
noncomputable def mAnd (t u:TT):TT:=fun σ H Q=>t σ H fun c H1=>br c (u σ H1 Q) (Q false H1)
noncomputable def mOr (t u:TT):TT:=fun σ H Q=>t σ H fun c H1=>br c (Q true H1) (u σ H1 Q)
variable {rest:List Expr}{tA tB':TT}
theorem zld_ (ha:PE X a ta) (hb:PE X (.BoolOp .And (b::rest) pos) tb):PE X (.BoolOp .And (a::b::rest) pos) (mAndV ta tb):=by
 intro pins s σ H Q I h
 refine BoolOp_and (thn (ha pins s σ H _ I h) fun v s1 ⟨x,H1,I1,r1,q1⟩=>?_)
 cases x with
 | bl c =>
  cases r1
  refine wpAny_truthy_bool ?_
  cases c with
  | true=>exact hb pins s1 σ H1 Q I1 (q1.1 rfl)
  | false=>exact ⟨.bl false,H1,I1,rfl,q1.2 rfl⟩
 | _=>exact q1.elim
theorem zmm_ (ha:PE X a ta) (hb:PE X (.BoolOp .Or (b::rest) pos) tb):PE X (.BoolOp .Or (a::b::rest) pos) (mOrV ta tb):=by
 intro pins s σ H Q I h
 refine BoolOp_or (thn (ha pins s σ H _ I h) fun v s1 ⟨x,H1,I1,r1,q1⟩=>?_)
 cases x with
 | bl c =>
  cases r1
  refine wpAny_truthy_bool ?_
  cases c with
  | false=>exact hb pins s1 σ H1 Q I1 (q1.2 rfl)
  | true=>exact ⟨.bl true,H1,I1,rfl,q1.1 rfl⟩
 | _=>exact q1.elim
theorem zci_ (ha:PT X a tA) (hb:PW X (.BoolOp .And (b::rest) pos) tB'):PW X (.BoolOp .And (a::b::rest) pos) (mAnd tA tB'):=by
 intro wh pins s σ H Q I h
 refine isTrue_and (thn (ha pins s σ H _ I h) fun c s1 ⟨H1,I1,q1⟩=>?_)
 cases c with
 | true=>exact hb wh pins s1 σ H1 Q I1 (q1.1 rfl)
 | false=>exact ⟨H1,I1,q1.2 rfl⟩
theorem zhU_ (ha:PT X a tA) (hb:PW X (.BoolOp .Or (b::rest) pos) tB'):PW X (.BoolOp .Or (a::b::rest) pos) (mOr tA tB'):=by
 intro wh pins s σ H Q I h
 refine isTrue_or (thn (ha pins s σ H _ I h) fun c s1 ⟨H1,I1,q1⟩=>?_)
 cases c with
 | true=>exact ⟨H1,I1,q1.1 rfl⟩
 | false=>exact hb wh pins s1 σ H1 Q I1 (q1.2 rfl)
theorem zdL_ {e:Expr}{t:TE}(h:PE X e t) (he:∀ whole,isTrue e X.env whole=(do let v ← whole; standAt e.pos; holding [v] (truthy v)):=by intro _; rfl):PT X e (mTest t):=by
 intro pins s σ H Q I hw
 refine isTrue_plain (thn (h pins s σ H _ I hw) fun v s1 ⟨x,H1,I1,r1,q1⟩=>?_) (he _)
 cases x with
 | bl c=>cases r1; exact wpAny_truthy_bool ⟨H1,I1,q1⟩
 | _=>exact q1.elim
theorem zu_ {op:CmpOp}{r:R2}(ho:OpR X (compareOp op) r) (ha:PE X a ta) (hb:PE X b tb) (hm:behindInMarks op b=false:=by first | exact nobehind _ (by decide) (by decide) | rfl):PT X (.Compare a [op] [b] pos) (mTest (tOp r ta tb)):=by
 intro pins s σ H Q I hw
 refine wpAny_isTrue_Compare1 (binT ha hb I hw fun v u s2 x y H2 I2 rx ry q=>?_) hm
 refine thn (ho pins s2 σ H2 x y v u _ I2 rx ry q) fun c s3 ⟨z,H3,I3,r3,q3⟩=>?_
 cases z with
 | bl k=>cases r3; exact wpAny_truthy_bool ⟨H3,I3,q3⟩
 | _=>exact q3.elim
theorem zdS_ {op:CmpOp}{r:R2}(ho:OpR X (compareOp op) r) (ha:PE X a ta) (hb:PE X b tb) (hm:behindInMarks op b=false:=by first | exact nobehind _ (by decide) (by decide) | rfl):PE X (.Compare a [op] [b] pos) (tOp r ta tb):=zj8_ ho ha hb hm
noncomputable def mIf (t:TT) (ta tb:TE):TE:=fun σ H Q=>t σ H fun c H1=>br c (ta σ H1 Q) (tb σ H1 Q)
theorem zkB_ {c:Expr}(hc:PT X c tA) (ha:PE X a ta) (hb:PE X b tb):PE X (.IfExp c a b pos) (mIf tA ta tb):=by
 intro pins s σ H Q I h
 refine wpAny_IfExp (thn (hc pins s σ H _ I h) fun d s1 ⟨H1,I1,q1⟩=>?_)
 cases d with
 | true=>exact ha pins s1 σ H1 Q I1 (q1.1 rfl)
 | false=>exact hb pins s1 σ H1 Q I1 (q1.2 rfl)
noncomputable def mIfS (c:TT) (t u:TS):TS:=fun D σ H=>c σ H fun b H1=>br b (t D σ H1) (u D σ H1)
theorem zad_ {c:Expr}{a b:List Stmt}{tc:TT}{t u:TS}(hc:PT X c tc) (ha:PSs X a t) (hb:PSs X b u):PS X (.If c a b pos) (mIfS tc t u):=by
 intro pins s σ H D I h
 refine wpAny_If (thn (hc pins s σ H _ I h) fun d s1 ⟨H1,I1,q1⟩=>?_)
 cases d with
 | true=>exact ha pins s1 σ H1 D I1 (q1.1 rfl)
 | false=>exact hb pins s1 σ H1 D I1 (q1.2 rfl)
end
end L2
namespace L2
open PySem PySem.Spec PyProof.Rows
section
variable {X:Cx}{a b c e o:Expr}{es:List Expr}{ta tb tc:TE}{t:TA}{pos:Pos}
noncomputable def mIx (K:Fgg):R2:=fun x y H Q=>match y with
 | .int i=>(match x with
  | .ref p=>∃ xs,(SqL K H p xs∨SqT K H p xs)∧(match atI xs i with | some v=>Q v H | none=>False)
  | .str z=>z.cps.toList.length≤sizeLine∧(match atI z.cps.toList i with | some c=>Q (tx [c]) H | none=>False)
  | _=>False)
 | _=>False
theorem ix_M:IxR X (mIx X.K):=by
 intro value slice pins s σ H x y v u Q I rx ry h hs0
 unfold mIx at h
 cases y with
 | int i =>
  cases x with
  | ref p =>
   obtain ⟨xs,hs,h⟩:=h
   cases ev:atI xs i with
   | none=>rw [ev] at h; exact h.elim
   | some w' =>
    rw [ev] at h
    rcases hs with hs | hs
    ·exact zlz_ value slice pins s σ H _ _ v u Q I rx ry ⟨p,xs,i,w',rfl,rfl,hs,ev,h⟩ hs0
    ·exact zl5_ value slice pins s σ H _ _ v u Q I rx ry ⟨p,xs,i,w',rfl,rfl,hs,ev,h⟩ hs0
  | str z =>
   obtain ⟨hz,h⟩:=h
   cases ev:atI z.cps.toList i with
   | none=>rw [ev] at h; exact h.elim
   | some w' =>
    rw [ev] at h
    exact zmD_ value slice pins s σ H _ _ v u Q I rx ry ⟨z,i,w',rfl,rfl,by simpa [Str.length] using hz,ev,h⟩ hs0
  | _=>exact h.elim
 | _=>exact h.elim
noncomputable def mSl (K:Fgg):V→Option Int→Option Int→Hp→VK→Prop:=fun x lo hi H Q=>match x with
 | .str z=>z.cps.toList.length≤sizeLine∧Q (tx (cutL z.cps.toList lo hi)) H
 | .ref a=>∃ xs,SqL K H a xs∧∀ p,H p=none→Q (.ref p) (upd H p (.lst (cutV xs lo hi)))
 | _=>False
theorem sl_M:SlR X (mSl X.K):=by
 intro pins s σ H x v vl vu lo hi sl Q I rx hs pl pu h
 unfold mSl at h
 cases x with
 | str z=>exact zlY_ pins s σ H _ v vl vu lo hi sl Q I rx hs pl pu ⟨by simpa [Str.length] using h.1,h.2⟩
 | ref p =>
  obtain ⟨xs,h1,h2⟩:=h
  exact zkX_ pins s σ H _ v vl vu lo hi sl Q I rx hs pl pu ⟨p,xs,rfl,h1,h2⟩
 | _=>exact h.elim
noncomputable def mPart (t:TE):TO:=fun σ H Q=>t σ H fun x H1=>match x with | .int i=>Q (some i) H1 | _=>False
theorem po_M (h:PE X e ta):PO X (some e) (mPart ta):=by
 intro pins s σ H Q I hw
 rw [evalPart_some]
 refine thn (h pins s σ H _ I hw) fun u s1 ⟨x,H1,I1,r1,q1⟩=>?_
 cases x with
 | int i=>obtain ⟨t,rfl⟩:=r1; exact ⟨some i,H1,I1,.int i t,q1⟩
 | _=>exact q1.elim
noncomputable def mLen (K:Fgg):List V→Hp→VK→Prop:=fun xs H Q=>match xs with
 | [.str z]=>z.cps.toList.length≤sizeLine∧Q (.int z.cps.toList.length) H
 | [.ref p]=>∃ ys,(SqL K H p ys∨SqT K H p ys)∧Q (.int ys.length) H
 | _=>False
theorem zaj_:CallR X (.builtin "len") (mLen X.K):=by
 intro pins s σ H xs us Q I r h
 unfold mLen at h
 split at h
 ·exact zfp_ pins s σ H _ us Q I r ⟨_,rfl,by simpa [Str.length] using h.1,by simpa [Str.length] using h.2⟩
 ·obtain ⟨ys,h1,h2⟩:=h
  exact zfy_ pins s σ H _ us Q I r ⟨_,ys,rfl,h1,h2⟩
 ·exact h.elim
noncomputable def mTwo (g:Int→Int→Int):List V→Hp→VK→Prop:=fun xs H Q=>match xs with | [.int i,.int j]=>Q (.int (g i j)) H | _=>False
theorem zif_ (hc:X.calm=true):CallR X (.builtin "min") (mTwo min):=by
 intro pins s σ H xs us Q I r h
 unfold mTwo at h
 split at h
 ·rename_i i j
  refine zis_ hc pins s σ H _ us Q I r ⟨i,j,rfl,?_⟩
  have e:(if j<i then j else i)=min i j:=by split<;>lia
  rw [e]; exact h
 ·exact h.elim
noncomputable def tyS (K:Fgg) (H:Hp):V→String→Prop:=fun x T=>match x with
 | .non=>T = "NoneType" | .bl _=>T = "bool" | .int _=>T = "int" | .str _=>T = "str"
 | .ref p=>(T = "list" ∧ ∃ xs,H p=some (.lst xs))∨(T = "tuple" ∧ ∃ xs,H p=some (.tup xs))
 | _=>False
theorem zl2_ {K:Fgg}{H:Hp}{x:V}{T:String}(h:tyS K H x T):TyOf K H x (.type T):=by
 unfold tyS at h
 cases x with
 | non=>subst h; exact .non
 | bl b=>subst h; exact .bl b
 | int i=>subst h; exact .int i
 | str z=>subst h; exact .str z
 | ref p =>
  rcases h with ⟨rfl,xs,h⟩ | ⟨rfl,xs,h⟩
  ·exact .lst h
  ·exact .tup h
 | _=>exact h.elim
noncomputable def isaB (T c:String):Option Bool :=
 if T=c then some true else if T = "bool" ∧ c = "int" then some true
 else if (T = "bool" ∨ T = "int" ∨ T = "str" ∨ T = "list" ∨ T = "tuple" ∨ T = "NoneType")∧(c = "bool" ∨ c = "int" ∨ c = "str" ∨ c = "list" ∨ c = "tuple" ∨ c = "dict") then some false else none
theorem zlc_ {K:Fgg}{T c:String}{b:Bool}(h:isaB T c=some b):PySem.W.kitOne K (.type T) (.type c)=some b:=by
 unfold isaB at h
 split at h
 ·rename_i e; subst e; cases h
  unfold PySem.W.kitOne
  rw [if_pos (by simp)]
 ·split at h
  ·rename_i e; obtain ⟨rfl,rfl⟩:=e; cases h; rfl
  ·split at h
   ·rename_i h1 h2 e
    cases h
    obtain ⟨e1,e2⟩:=e
    rcases e1 with rfl | rfl | rfl | rfl | rfl | rfl<;>rcases e2 with rfl | rfl | rfl | rfl | rfl | rfl<;>first | rfl | exact absurd rfl h1 | exact absurd ⟨rfl,rfl⟩ h2
   ·cases h
noncomputable def mIsa (K:Fgg):List V→Hp→VK→Prop:=fun xs H Q=>match xs with
 | [.int _,.ty c]=>(match isaB "int" c with | some b=>Q (.bl b) H | none=>False)
 | [.bl _,.ty c]=>(match isaB "bool" c with | some b=>Q (.bl b) H | none=>False)
 | [.str _,.ty c]=>(match isaB "str" c with | some b=>Q (.bl b) H | none=>False)
 | [.non,.ty c]=>(match isaB "NoneType" c with | some b=>Q (.bl b) H | none=>False)
 | [.ref p,.ty c]=>∃ T,tyS K H (.ref p) T∧(match isaB T c with | some b=>Q (.bl b) H | none=>False)
 | _=>False
theorem zhG_:CallR X (.builtin "isinstance") (mIsa X.K):=by
 intro pins s σ H xs us Q I r h
 have key:∀ (x:V) (T c:String),xs=[x,.ty c]→tyS X.K H x T→(match isaB T c with | some b=>Q (.bl b) H | none=>False)→wpAny (model X.prog X.w) X.A (call (.builtin "isinstance") us) (EP X pins σ Q) X.xe s:=by
  intro x T c e ht hq
  subst e
  obtain ⟨u,w',rfl,r1,r2⟩:=vals2 r
  cases r2
  cases eb:isaB T c with
  | none=>rw [eb] at hq; exact hq.elim
  | some b =>
   rw [eb] at hq
   exact zh5_ I r1 (zl2_ ht) (zlc_ eb) fun tk=>⟨.bl b,H,I.tok tk,rfl,hq⟩
 unfold mIsa at h
 split at h
 ·exact key _ "int" _ rfl rfl h
 ·exact key _ "bool" _ rfl rfl h
 ·exact key _ "str" _ rfl rfl h
 ·exact key _ "NoneType" _ rfl rfl h
 ·obtain ⟨T,h1,h2⟩:=h
  exact key _ T _ rfl h1 h2
 ·exact h.elim
noncomputable def strsOf:List V→Option (List Str)
 | []=>some []
 | .str z::r=>(strsOf r).map (z::·)
 | _::_=>none
theorem zgS_ {vs:List V}{zs:List Str}:strsOf vs=some zs→vs=zs.map V.str:=by
 induction vs generalizing zs with
 | nil=>intro h; cases h; rfl
 | cons v r ih =>
  intro h
  cases v with
  | str z =>
   unfold strsOf at h
   cases e:strsOf r with
   | none=>rw [e] at h; cases h
   | some y=>rw [e] at h; cases h; rw [ih e]; rfl
  | _=>cases h
noncomputable def joinS (sep:List Nat) (zs:List Str):List Nat:=(Txt.join ⟨sep.toArray⟩ zs).cps.toList
noncomputable def mJoin (K:Fgg):V→List V→Hp→VK→Prop:=fun x xs H Q=>match x,xs with
 | .str l,[.ref D]=>∃ vs,(SqL K H D vs)∧(match strsOf vs with | some zs=>JoinOk l zs=true∧Q (tx (joinS l.cps.toList zs)) H | none=>False)
 | _,_=>False
theorem zfV_:∀ {zs:List Str}{us:List Value},Vals (zs.map V.str) us→∃ l:List (Str×Tok),us=strValues l∧l.map (·.1)=zs
 | [],us,r=>by cases r; exact ⟨[],rfl,rfl⟩
 | z::zs,us,r=>by
  cases r with
  | cons r rr =>
   obtain ⟨t,rfl⟩:=r
   obtain ⟨l,rfl,hl⟩:=zfV_ rr
   exact ⟨(z,t)::l,rfl,by rw [List.map_cons,hl]⟩
theorem zko_:MtR X "str.join" (mJoin X.K):=by
 intro pins s σ H x xs v us Q I rx rv h
 unfold mJoin at h
 split at h
 ·rename_i l D
  obtain ⟨k,rfl⟩:=rx
  obtain ⟨u,rfl,ru⟩:=rv.one
  cases ru
  obtain ⟨vs,hs,h⟩:=h
  cases ez:strsOf vs with
  | none=>rw [ez] at h; exact h.elim
  | some zs =>
   rw [ez] at h
   have ev:=zgS_ ez
   subst ev
   obtain ⟨its,r,p,hz⟩:=I.list hs
   obtain ⟨lz,e1,e2⟩:=zfV_ r
   subst e1
   refine SC.join p.isList e2 h.1 fun t' k'=>⟨tx (joinS l.cps.toList zs),H,I.tok _,⟨t',?_⟩,h.2⟩
   unfold joinS
   rw [← zch_,← zch_]
 ·exact h.elim
end
theorem zjq_ (zs:List Str):joinS [] zs=(zs.map fun z=>z.cps.toList).flatten:=by
 unfold joinS Txt.join Builtin.Str.glued
 cases zs with
 | nil=>rfl
 | cons z r =>
  show ((r.foldl (fun acc p=>acc++#[]++p.cps) z.cps)).toList=_
  have:∀ (acc:Array Nat),(r.foldl (fun acc p=>acc++#[]++p.cps) acc).toList=acc.toList++(r.map fun z=>z.cps.toList).flatten:=by
   induction r with
   | nil=>intro acc; simp
   | cons y r ih=>intro acc; rw [List.foldl_cons,ih]; simp
  rw [this]
  simp
end L2
namespace L2
open PySem PySem.Spec PyProof.Rows
noncomputable def Gd (P:Program) (w:World) (K:Fgg) (mg:Str→Option Value) (base:Heap) (CX:CXT) (k:Nat) (x:Str) (ps:List Str) (sp:Sp):Prop :=
 ∃ f fd,FnOk P w K mg base CX k f fd ps sp∧mg x=some (.ref f)∧PySem.W.keepIn K (.ref f)=true∧Binds K fd ps []
noncomputable def Gc (mg:Str→Option Value) (x:Str) (v:V):Prop:=∃ u,mg x=some u∧RelV v u
noncomputable abbrev Gb (mg:Str→Option Value) (x:Str):Prop:=mg x=none
section
variable {X:Cx}{CX:CXT}{k:Nat}{x:Str}{ps:List Str}{sp:Sp}{p pos:Pos}{e:Expr}{es:List Expr}{t:TA}{tg:Expr}
theorem zs_ (G:Gd X.prog X.w X.K X.mg X.base CX0 k x ps sp) (hr:Room k X.A) (ha:PA X (e::es) t) (hg:Gl X x:=by rfl) (hdb:(x == ("__debug__" : Str))=false:=by decide)
  (he:starEach (e::es) X.env=(false,eval e X.env)::starEach es X.env:=by rfl) (hpl:(backTo pos (starEach es X.env)).any (·.1)=false:=by rfl) :
  PE X (.Call (.Name x p) (e::es) [] pos) (tCall sp [] E0 t):=by
 obtain ⟨f,fd,F,hm,hk,hb⟩:=G
 exact zlw_ F hr hg hm hk hb .nil pass0 ha hdb he hpl
theorem zf4_ {v:V}(h:Gc X.mg x v) (hg:Gl X x:=by rfl) (hd:(x == ("__debug__" : Str))=false:=by decide):PE X (.Name x pos) (tC v):=by
 obtain ⟨u,hm,r⟩:=h
 exact zkF_ hg hm r hd
theorem pe_ty (T:String) (hm:Gb X.mg x) (hg:Gl X x:=by rfl) (hv:bootBuiltins x=some (.type T):=by rfl) (hn:x ≠ "__name__" := by decide) (hd:(x == ("__debug__" : Str))=false:=by decide):PE X (.Name x pos) (tC (.ty T)) :=
 zj9_ hg hm hv rfl hn hd
theorem zem_ {id:String}{r:List V→Hp→VK→Prop}(hc:CallR X (.builtin id) r) (hm:Gb X.mg x) (ha:PA X (e::es) t) (hg:Gl X x:=by rfl) (hv:bootBuiltins x=some (.builtin id):=by rfl) (hn:x ≠ "__name__" := by decide) (hdb:(x == ("__debug__" : Str))=false:=by decide)
  (hs:starEach (e::es) X.env=(false,eval e X.env)::starEach es X.env:=by rfl) (hpl:(backTo pos (starEach es X.env)).any (·.1)=false:=by rfl):PE X (.Call (.Name x p) (e::es) [] pos) (tCB r t) :=
 zi9_ hc hg hm hv ha hn hdb hs hpl
theorem pe_sm {o:Expr}{to:TE}{name:Str}{id:String}{r:V→List V→Hp→VK→Prop}{apos cpos:Pos}(slot:Slot "str" name id) (hty:typeOf (.builtin id)=pure (.type "method_descriptor")) (hm:MtR X id r) (ho:PE X o to) (ha:PA X (e::es) t)
  (h1:attributeBase o name X.env (eval o X.env)=eval o X.env:=by rfl) (h2:((((backTo cpos (starEach (e::es) X.env)).all fun x=>!x.fst) && (backToKw cpos (keywordEach [] X.env)).all fun x=>x.fst.isSome) && decide (((e::es).length+([]:List Keyword).length+if ([]:List Keyword).isEmpty=true then 0 else 1)<30))=true:=by rfl)
  (h3:(apos.endLine == cpos.line)=true:=by rfl) (h4:starEach (e::es) X.env=(false,eval e X.env)::starEach es X.env:=by rfl) (h5:((backTo cpos (starEach es X.env)).any fun x=>x.fst)=false:=by rfl) :
  PE X (.Call (.Attribute o name apos) (e::es) [] cpos) (tBM X.K "str" r to t):=zlt_ PySem.F.plainAttrs_str slot hty hm ho ha h1 h2 h3 h4 h5
noncomputable def iAny (K:Fgg) (tl:TE):TI:=fun σ H R=>tl σ H fun x H1=>match x with
 | .str z=>R (Itp z.cps.toList.length (fun i=>tx [z.cps.toList.getD i 0])) H1
 | .ref a=>((∃ xs,SqL K H1 a xs)∧R (Itl K a) H1)∨((∃ xs,SqT K H1 a xs)∧R (Itt K a) H1)
 | _=>False
theorem zlR_ (z:Str):sgn z=fun i=>tx [z.cps.toList.getD i 0]:=by
 funext i
 unfold sgn
 simp [Array.getD_eq_getD_getElem?,List.getD_eq_getElem?_getD]
theorem zdB_ {l:Expr}{tl:TE}(hl:PE X l tl):PI X tg l (iAny X.K tl):=by
 intro pins s σ H R I h
 refine thn (hl pins s σ H _ I h) fun v s1 ⟨x,H1,I1,r1,q1⟩=>?_
 have pt:∀ (v:V),PE X l (tC v)→PE X l (tC v):=fun _ h=>h
 cases x with
 | str z =>
  obtain ⟨t,rfl⟩:=r1
  refine wpAny_pyIter_strU ?_
  have q:R (Itp z.cps.size (sgn z)) H1:=by
   have e:z.cps.toList.length=z.cps.size:=by simp
   rw [zlR_,← e]
   exact q1
  refine ⟨s1.heap.objs.size,[s1.heap.objs.size],_,_,H1,rfl,I1.kept (t':=s1.toks) fun b o e=>Heap.get?_push_of_some _ e,zjK_ _ z t,⟨Nat.zero_le _,⟨_,Heap.get?_push_size _ rfl,rfl,rfl⟩⟩,fun b hb=>?_,q⟩
  have e:b=s1.heap.objs.size:=by simpa using hb
  subst e
  exact I1.fpOk (Nat.le_refl _) (I1.hok.fresh (Nat.le_refl _))
 | ref a =>
  cases r1
  rcases q1 with ⟨⟨xs,hq⟩,q⟩ | ⟨⟨xs,hq⟩,q⟩
  ·obtain ⟨its,rv,p,hz⟩:=I1.list hq
   refine wpAny_pyIter_list p.isList ?_
   refine ⟨s1.heap.objs.size,[s1.heap.objs.size],_,_,H1,rfl,I1.kept (t':=s1.toks) fun b o e=>Heap.get?_push_of_some _ e,zhT_ a _,⟨_,Heap.get?_push_size _ rfl,rfl,rfl⟩,fun b hb=>?_,q⟩
   have e:b=s1.heap.objs.size:=by simpa using hb
   subst e
   exact I1.fpOk (Nat.le_refl _) (I1.hok.fresh (Nat.le_refl _))
  ·obtain ⟨its,rv,p,hz⟩:=I1.tuple hq
   refine wpAny_pyIter_tuple (show s1.heap.IsTuple a its.toArray from p) ?_
   refine ⟨s1.heap.objs.size,[s1.heap.objs.size],_,_,H1,rfl,I1.kept (t':=s1.toks) fun b o e=>Heap.get?_push_of_some _ e,zhy_ a _,⟨_,Heap.get?_push_size _ rfl,rfl,rfl⟩,fun b hb=>?_,q⟩
   have e:b=s1.heap.objs.size:=by simpa using hb
   subst e
   exact I1.fpOk (Nat.le_refl _) (I1.hok.fresh (Nat.le_refl _))
 | _=>exact q1.elim
noncomputable def mRng2 (ta:TA):TI:=fun σ H R=>ta σ H fun vs H1=>match vs with | [.int i,.int j]=>(-(2 ^ 62)≤i∧i<2 ^ 62 ∧ -(2 ^ 62)≤j∧j<2 ^ 62)∧R (Itr i (j-i).toNat) H1 | _=>False
end
section
variable {X:Cx}{tg:Expr}
theorem zg7_ {a b:Expr}{ta:TA}{p pos:Pos}(hm:Gb X.mg "range") (ha:PA X [a,b] ta) (hg:Gl X "range" := by rfl) (hs:starEach [a,b] X.env=[(false,eval a X.env),(false,eval b X.env)]:=by rfl) (hs2:starEach [b] X.env=[(false,eval b X.env)]:=by rfl) :
  PI X tg (.Call (.Name "range" p) [a,b] [] pos) (mRng2 ta):=by
 intro pins s σ H R I h
 refine Call_ (zgV_ I hg hm boot_range (PyProof.Rows.callWith_type1 (thn (ha pos pins s σ H _ I h) fun us s1 ⟨vs,H1,I1,r1,q1⟩=>?_) (by rw [hs,hs2]) (by rw [hs2]; rfl)))
 dsimp only at q1
 split at q1
 ·obtain ⟨⟨q1,q2,q3,q4⟩,q⟩:=q1
  cases r1 with
  | cons r rr =>
   cases rr with
   | cons r' rr =>
    cases rr
    obtain ⟨t,rfl⟩:=r
    obtain ⟨t',rfl⟩:=r'
    exact call_range_2 (zjO_ I1 q1 q2 q3 q4 q)
 ·exact q1.elim
variable {elts:List Expr}{kk:Nat}{tpos:Pos}
noncomputable def mNeg (ta:TE):TE:=fun σ H Q=>ta σ H fun x H1=>match x with | .int i=>Q (.int (-i)) H1 | _=>False
theorem zmw_ {a:Expr}{ta:TE}{pos:Pos}(ha:PE X a ta):PE X (.UnaryOp .USub a pos) (mNeg ta):=by
 intro pins s σ H Q I h
 refine UnaryOp_ (thn (ha pins s σ H _ I h) fun v s1 ⟨x,H1,I1,r1,q1⟩=>?_)
 cases x with
 | int i=>exact zlZ_ pins s1 σ H1 _ v Q I1 r1 ⟨i,rfl,q1⟩
 | _=>exact q1.elim
end
theorem zb4_ {H:Hp}{p:Addr}(h:H p=none) (o:HO):Same H (upd H p o):=fun b u q=>by rw [zby_ (zbp_ q h)]; exact q
end L2
namespace L2
open PySem PySem.Spec PyProof.Rows
theorem zbH_ {n:Nat}(h:n≤100000):n≤sizeLine:=by rw [sizeLine_eq]; lia
theorem zeU_ {zs:List Str}{sep:Str}(h:zs.length*(sep.length+1)≤100000) (h1:∀ z∈zs,z.length≤1):JoinOk sep zs=true:=by
 unfold JoinOk
 have key:∀ (l:List Str) (acc:Nat),(∀ z∈l,z.length≤1)→l.foldl (fun x1 x2=>x1+x2.length+sep.length) acc≤acc+l.length*(sep.length+1):=by
  intro l
  induction l with
  | nil=>intro acc _; simp
  | cons z r ih =>
   intro acc hz
   rw [List.foldl_cons]
   have h2:=ih (acc+z.length+sep.length) fun y hy=>hz y (List.mem_cons_of_mem _ hy)
   have h3:=hz z List.mem_cons_self
   rw [List.length_cons,Nat.add_mul]
   lia
 have q:=key zs 0 h1
 rw [List.foldl_toArray]
 unfold Builtin.Str.tooLong
 simp only [Bool.not_eq_true',decide_eq_false_iff_not]
 have:zs.foldl (fun x1 x2=>x1+x2.length+sep.length) 0≤100000:=by lia
 have hl:(100000:Nat)≤sizeLine:=by rw [sizeLine_eq]; lia
 lia
end L2
namespace L2
open PySem PySem.Spec PyProof.Rows
section
variable {X:Cx}{tg:Expr}
theorem zkO_ {n:Nat}{k:Int}(h0:0≤k) (h1:k<n):ixN n k=some k.toNat:=by unfold ixN; rw [if_pos h0,if_pos h1]
end
section
variable {X:Cx}{x:Str}{p pos:Pos}{e:Expr}{es:List Expr}{t:TA}
theorem ziU_ (T:String) {r:List V→Hp→VK→Prop}(hc:CallR X (.type T) r) (hm:Gb X.mg x) (ha:PA X (e::es) t) (hg:Gl X x:=by rfl) (hv:bootBuiltins x=some (.type T):=by rfl) (hn:x ≠ "__name__" := by decide) (hdb:(x == ("__debug__" : Str))=false:=by decide)
  (hs:starEach (e::es) X.env=(false,eval e X.env)::starEach es X.env:=by rfl) (hpl:(backTo pos (starEach es X.env)).any (·.1)=false:=by rfl):PE X (.Call (.Name x p) (e::es) [] pos) (tCB r t) :=
 zh3_ hc hg hm hv ha hn hdb hs hpl
end
end L2
namespace L2
open PySem PySem.Spec PyProof.Rows
theorem zh0_ (l:List Nat):joinS [] (l.map fun c=>(⟨#[c]⟩:Str))=l:=by
 rw [L2.zjq_,List.map_map]
 induction l with
 | nil=>rfl
 | cons c r ih=>rw [List.map_cons,List.flatten_cons,ih]; rfl
end L2
namespace L2
open PySem PySem.Spec PyProof.Rows
end L2
namespace L2
open PySem PySem.Spec PyProof.Rows
structure FlyX (x T C:Addr) (H:Hp) (hb h:Heap):Prop where
 obj:∃ oe vs a0 oT ts,h.get? x=some oe∧(oe.cls=.ref C∧vs[0]?=some a0)∧oe.data=.fields vs∧vs[1]?=some (.ref T)∧T≠x∧h.get? T=some oT∧oT.data=.fields ts∧ts[3]?=some .none
 hx:H x=none
 hT:H T=none
 nx:hb.get? x=none
 nT:hb.get? T=none
noncomputable def CXx (P:Program) (w:World):CXT:=fun outer H s E e s'=>∃ x T C H',e=.ref x∧s'.os=s.os∧AllBare s'.gens∧Un (frs outer) [] H H' s.heap s'.heap∧HOk P w H' s'.heap ∧
 FlyX x T C H' s.heap s'.heap∧E (.ref C) none H'
section
variable {X:Cx}{pins:Pnn}{σ:St}{H:Hp}{s:Shared}
end
section
variable {P:Program}{w:World}{K:Fgg}{mg:Str→Option Value}{base:Heap}{N:List Str}{qual:Str}{scope:Scope}{f:Addr}{cd:Value}{A:Around}{outer:List Env}{s0:Shared}{H0:Hp}{E:XK}
end
end L2
namespace L2
open PySem PySem.Spec PyProof.Rows
noncomputable def gA (K:Fgg) (x:Str):Addr:=match PySem.W.nsIn K mainGlobals x with | some (some (.ref c))=>c | _=>0
section
variable {X:Cx}{E:XK}{C:Addr}{x:Str}{e:Expr}{es:List Expr}{t:TA}{np cpos pos:Pos}
end
section
variable {X:Cx}{a:Expr}{ta:TE}{pos:Pos}
end
end L2
namespace LX
open PySem PySem.W PySem.Calls PyProof.Rows Builtin Builtin.ObjectAttr Builtin.Getset_descriptor
section
variable {prog:Program}{w:World}{A:Around}{K:Frag}{x D:Addr}
end
end LX
namespace L2
open PySem PySem.Spec PyProof.Rows
end L2
namespace L2
open PySem PySem.Spec PyProof.Rows
section
variable {X:Cx}{k:Nat}{x:Str}{ps:List Str}{sp:Sp}{E:XK}{p pos:Pos}{e:Expr}{es:List Expr}{t:TA}
end
noncomputable def XP (X:Cx) (pins:Pnn) (W:St→XK) (e:Value) (s':Shared):Prop:=∃ σ' Hb sb,Inv X pins σ' Hb sb∧CXx X.prog X.w X.stack Hb sb (W σ') e s'
noncomputable abbrev TX:=Ends→(St→XK)→St→Hp→Prop
section
variable {X:Cx}{st:Stmt}{rest:List Stmt}{t u:TX}{k:Nat}{x:Str}{ps:List Str}{sp:Sp}{p pos pos':Pos}{e:Expr}{es:List Expr}{ta:TA}
end
section
variable {X:Cx}{pins:Pnn}{σ:St}{Hb H':Hp}{sb s1:Shared}{x T C:Addr}
end
end L2
namespace L2
open PySem PySem.Spec PyProof.Rows
section
variable {X:Cx}{body:List Stmt}{tb:TX}{ts:TS}{S:Addr}{sx n:Str}{i:Nat}{b₀:Stmt}{suite:List Stmt}{np hpos pos:Pos}
end
end L2
namespace L2
open PySem PySem.Spec PyProof.Rows
section
variable {P:Program}{w:World}{K:Fgg}{mg:Str→Option Value}{base:Heap}
end
section
variable {X:Cx}{k:Nat}{x:Str}{ps:List Str}{sp:Sp}{p pos:Pos}{e:Expr}{es:List Expr}{t:TA}
end
end L2
namespace L2
open PySem PySem.Spec PyProof.Rows
section
variable {X:Cx}{k:Nat}{x:Str}{ps:List Str}{sp:Sp}{p pos pos':Pos}{e:Expr}{es:List Expr}{ta:TA}{i:Nat}{y:Str}{py:Pos}
end
noncomputable def SG:List Nat:=[32,48,49,50,51,52,53,54,55,56,57,65,66,67,68,69,70,71,72,73,74,75,76,77,78,79,80,81,82,83,84,85,86,87,88,89,90]
noncomputable def rk (l:List Nat):Option Nat:=match l with | [c]=>SG.findIdx? (· == c) | _=>none
end L2
namespace L2
open PySem PySem.Spec PyProof.Rows
section
variable {X:Cx}
end
section
variable {X:Cx}
noncomputable def intsV (lo hi:Int):List V:=(List.range (hi-lo).toNat).map fun (i:Nat)=>V.int (lo+i)
noncomputable def mList (K:Fgg):List V→Hp→VK→Prop:=fun xs H Q=>match xs with
 | [.ref p]=>(∃ ys,(SqL K H p ys∨SqT K H p ys)∧∀ l,H l=none→Q (.ref l) (upd H l (.lst ys))) ∨
   (∃ lo hi,H p=some (.rng lo hi)∧(-50000≤lo∧lo≤50000 ∧ -50000≤hi∧hi≤50000)∧∀ l,H l=none→Q (.ref l) (upd H l (.lst (intsV lo hi))))
 | _=>False
theorem zjM_ {lo:Int}:∀ {n:Nat}{us:List Value},us.length=n→(∀ (j:Nat) (v:Value),us[j]?=some v→∃ t,v=Value.int (lo+j) t)→Vals ((List.range n).map fun (i:Nat)=>V.int (lo+i)) us
 | n,us,hl,h=>by
  refine paired_of (by rw [List.length_map,List.length_range,hl]) fun j x u hx hu=>?_
  rw [List.getElem?_map] at hx
  cases e:(List.range n)[j]? with
  | none=>rw [e] at hx; cases hx
  | some i =>
   rw [e] at hx; cases hx
   have:=List.getElem?_eq_some_iff.mp e
   obtain ⟨hj,ej⟩:=this
   rw [List.getElem_range] at ej
   subst ej
   exact h j u hu
 where paired_of:∀ {xs:List V}{us:List Value},xs.length=us.length→(∀ (j:Nat) x u,xs[j]?=some x→us[j]?=some u→RelV x u)→Vals xs us
 | [],[],_,_=>.nil
 | x::xs,u::us,hl,h=>.cons (h 0 x u rfl rfl) (paired_of (Nat.succ.inj hl) fun j x u a b=>h (j+1) x u a b)
theorem zbK_ (hc:X.calm=true):CallR X (.type "list") (mList X.K):=by
 intro pins s σ H xs us Q I r h
 unfold mList at h
 split at h
 ·rename_i p
  rcases h with ⟨ys,hq,q⟩ | ⟨lo,hi,hp,⟨h1,h2,h3,h4⟩,q⟩
  ·exact zfx_ pins s σ H _ us Q I r ⟨p,ys,rfl,hq,q⟩
  ·obtain ⟨u,rfl,rx⟩:=vals1 r
   cases rx
   obtain ⟨t,u,v,e⟩:=I.hok p _ hp
   have hn:Builtin.Range.rangeSize lo hi 1=(((hi-lo).toNat:Nat):Int):=by rw [rangeSize_one]; split<;>lia
   refine call_list_range (I.ok.hd hc) e (small_one (by lia) (by lia) (by lia) (by lia)) hn (by lia) fun h' tk acc c' kp e' ⟨hs,hi'⟩=>?_
   refine ⟨.ref s.heap.objs.size,_,I.laid (o:=.lst (intsV lo hi)) (t':=tk) kp (Nat.le_refl _) ?_,rfl,q _ (I.hok.fresh (Nat.le_refl _))⟩
   refine ⟨?_,acc.toList,c',zjM_ (by simpa using hs) (fun j v hv=>?_),by simpa using e'⟩
   ·unfold intsV; rw [List.length_map,List.length_range]; exact zbH_ (by lia)
   ·obtain ⟨t,ht⟩:=hi' j v (by simpa using hv)
    exact ⟨t,by rw [ht]; simp⟩
 ·exact h.elim
end
inductive EqD (K:Fgg) (H:Hp):Nat→V→V→Bool→Prop
 | flat {x y:V}(hx:flatV x=true) (hy:flatV y=true):EqD K H 0 x y (eqV x y)
 | lst {n:Nat}{p q:Addr}{xs ys:List V}(e:Nat→Bool) (hp:SqL K H p xs) (hq:SqL K H q ys) (hl:xs.length=ys.length) (h:∀ (i:Nat) x y,xs[i]?=some x→ys[i]?=some y→EqD K H n x y (e i)):EqD K H (n+1) (.ref p) (.ref q) ((List.range xs.length).all e)
 | lstN {n:Nat}{p q:Addr}{xs ys:List V}(hp:SqL K H p xs) (hq:SqL K H q ys) (hl:xs.length≠ys.length):EqD K H n (.ref p) (.ref q) false
 | tup {n:Nat}{p q:Addr}{xs ys:List V}(e:Nat→Bool) (hp:SqT K H p xs) (hq:SqT K H q ys) (h:∀ (i:Nat) x y,xs[i]?=some x→ys[i]?=some y→EqD K H n x y (e i)):EqD K H (n+1) (.ref p) (.ref q) ((List.range (min xs.length ys.length)).all e && xs.length == ys.length)
 | lt {n:Nat}{p q:Addr}{xs ys:List V}(hp:SqL K H p xs) (hq:SqT K H q ys):EqD K H n (.ref p) (.ref q) false
 | tl {n:Nat}{p q:Addr}{xs ys:List V}(hp:SqT K H p xs) (hq:SqL K H q ys):EqD K H n (.ref p) (.ref q) false
 | lf {n:Nat}{p:Addr}{xs:List V}{y:V}(hp:SqL K H p xs) (hy:flatV y=true):EqD K H n (.ref p) y false
 | fl {n:Nat}{p:Addr}{xs:List V}{y:V}(hp:SqL K H p xs) (hy:flatV y=true):EqD K H n y (.ref p) false
 | tf {n:Nat}{p:Addr}{xs:List V}{y:V}(hp:SqT K H p xs) (hy:flatV y=true):EqD K H n (.ref p) y false
 | ft {n:Nat}{p:Addr}{xs:List V}{y:V}(hp:SqT K H p xs) (hy:flatV y=true):EqD K H n y (.ref p) false
 | up {n:Nat}{x y:V}{b:Bool}(h:EqD K H n x y b):EqD K H (n+1) x y b
section
variable {X:Cx}{pins:Pnn}{σ:St}{H:Hp}{s:Shared}
theorem zcC_ {xs:List V}{us:List Value}(r:Vals xs us) {i:Nat}(h:i<us.toArray.size):∃ x,xs[i]?=some x∧RelV x us.toArray[i]:=by
 have hi:i<us.length:=by simpa using h
 have hl:=r.length
 obtain ⟨u,hu,ru⟩:=r.get (List.getElem?_eq_getElem (show i<xs.length by lia))
 refine ⟨_,List.getElem?_eq_getElem (by lia),?_⟩
 rw [List.getElem?_eq_getElem hi] at hu
 cases hu
 simpa using ru
theorem zhc_ (I:Inv X pins σ H s) {n:Nat}{x y:V}{b:Bool}(h:EqD X.K H n x y b):x=y→b=true:=by
 induction h with
 | flat hx hy =>
  rename_i x y
  rintro rfl
  cases x<;>first | (cases hx; done) | (simp [eqV]; done) | rfl
 | lst e hp hq hl h ih =>
  rename_i n p q xs ys
  intro e0
  cases e0
  have exy:=I.list_inj hp hq
  subst exy
  rw [List.all_eq_true]
  intro i hi
  have hi:=List.mem_range.mp hi
  exact ih i _ _ (List.getElem?_eq_getElem hi) (List.getElem?_eq_getElem hi) rfl
 | lstN hp hq hl =>
  intro e0
  cases e0
  exact absurd (by rw [I.list_inj hp hq]) hl
 | tup e hp hq h ih =>
  rename_i n p q xs ys
  intro e0
  cases e0
  have exy:=I.tuple_inj hp hq
  subst exy
  rw [Bool.and_eq_true,List.all_eq_true]
  refine ⟨?_,by simp⟩
  intro i hi
  have hi:=List.mem_range.mp hi
  have hi:i<xs.length:=by lia
  exact ih i _ _ (List.getElem?_eq_getElem hi) (List.getElem?_eq_getElem hi) rfl
 | lt hp hq =>
  intro e0
  cases e0
  obtain ⟨its,r1,p1,z1⟩:=I.list hp
  obtain ⟨its2,r2,p2,z2⟩:=I.tuple hq
  exact absurd rfl (SeqAt.ne_of_list_tuple p1.isList p2)
 | tl hp hq =>
  intro e0
  cases e0
  obtain ⟨its,r1,p1,z1⟩:=I.tuple hp
  obtain ⟨its2,r2,p2,z2⟩:=I.list hq
  exact absurd rfl (SeqAt.ne_of_list_tuple p2.isList p1)
 | lf hp hy=>rintro rfl; cases hy
 | fl hp hy=>rintro rfl; cases hy
 | tf hp hy=>rintro rfl; cases hy
 | ft hp hy=>rintro rfl; cases hy
 | up h ih=>exact ih
theorem zhY_ (I:Inv X pins σ H s) {n:Nat}{x y:V}{b:Bool}(h:EqD X.K H n x y b):∀ (A:Around) (v u:Value),A.units+n<cLine→RelV x v→RelV y u →
  SeqAt.EqAt A s v u b∧(∀ p q,x=.ref p→y=.ref q→SeqAt.RcAt A s v u b):=by
 induction h with
 | flat hx hy =>
  intro A v u _ rx ry
  refine ⟨zjC_ rx ry hx hy,fun p q e _=>?_⟩
  subst e; cases hx
 | lst e hp hq hl h ih =>
  rename_i n p q xs ys
  intro A v u hu rx ry
  cases rx; cases ry
  obtain ⟨its,r1,p1,z1⟩:=I.list hp
  obtain ⟨its2,r2,p2,z2⟩:=I.list hq
  have l1:=r1.length
  have l2:=r2.length
  have rc:SeqAt.RcAt A s (.ref p) (.ref q) ((List.range xs.length).all e):=by
   have:=SeqAt.RcAt.lists (A:=A) (e:=e) p1.isList p2.isList (by simp only [List.size_toArray]; lia) (by lia) (fun j h1 h2=>by
    obtain ⟨x,ex,rx⟩:=zcC_ r1 h1
    obtain ⟨y,ey,ry⟩:=zcC_ r2 h2
    exact (ih j x y ex ey A.in1 _ _ (by show A.units+1+n<_; lia) rx ry).1)
   rw [List.size_toArray,← l1] at this
   exact this
  refine ⟨?_,fun _ _ _ _=>rc⟩
  by_cases hpq:p=q
  ·subst hpq
   have exy:=I.list_inj hp hq
   subst exy
   have:(List.range xs.length).all e=true:=by
    rw [List.all_eq_true]
    intro i hi
    have hi:=List.mem_range.mp hi
    exact zhc_ I (h i _ _ (List.getElem?_eq_getElem hi) (List.getElem?_eq_getElem hi)) rfl
   rw [this]
   exact SeqAt.EqAt.same _
  ·exact .of_refs hpq rc
 | lstN hp hq hl =>
  rename_i n p q xs ys
  intro A v u hu rx ry
  cases rx; cases ry
  obtain ⟨its,r1,p1,z1⟩:=I.list hp
  obtain ⟨its2,r2,p2,z2⟩:=I.list hq
  have l1:=r1.length
  have l2:=r2.length
  have rc:SeqAt.RcAt A s (.ref p) (.ref q) false:=SeqAt.RcAt.lists_lengths p1.isList p2.isList (by simp only [List.size_toArray,bne_iff_ne,ne_eq]; lia) (by lia)
  refine ⟨.of_refs (fun e=>?_) rc,fun _ _ _ _=>rc⟩
  subst e
  exact hl (by rw [I.list_inj hp hq])
 | tup e hp hq h ih =>
  rename_i n p q xs ys
  intro A v u hu rx ry
  cases rx; cases ry
  obtain ⟨its,r1,p1,z1⟩:=I.tuple hp
  obtain ⟨its2,r2,p2,z2⟩:=I.tuple hq
  have l1:=r1.length
  have l2:=r2.length
  have rc:SeqAt.RcAt A s (.ref p) (.ref q) ((List.range (min xs.length ys.length)).all e && xs.length == ys.length):=by
   have:=SeqAt.RcAt.tuples (A:=A) (e:=e) (show s.heap.IsTuple p its.toArray from p1) (show s.heap.IsTuple q its2.toArray from p2) (by lia) (fun j h1 h2=>by
    obtain ⟨x,ex,rx⟩:=zcC_ r1 h1
    obtain ⟨y,ey,ry⟩:=zcC_ r2 h2
    exact (ih j x y ex ey A.in1 _ _ (by show A.units+1+n<_; lia) rx ry).1)
   rw [List.size_toArray,List.size_toArray,← l1,← l2] at this
   exact this
  refine ⟨?_,fun _ _ _ _=>rc⟩
  by_cases hpq:p=q
  ·subst hpq
   have exy:=I.tuple_inj hp hq
   subst exy
   have:((List.range (min xs.length xs.length)).all e && xs.length == xs.length)=true:=by
    rw [Bool.and_eq_true,List.all_eq_true]
    refine ⟨?_,by simp⟩
    intro i hi
    have hi:=List.mem_range.mp hi
    have hi:i<xs.length:=by lia
    exact zhc_ I (h i _ _ (List.getElem?_eq_getElem hi) (List.getElem?_eq_getElem hi)) rfl
   rw [this]
   exact SeqAt.EqAt.same _
  ·exact .of_refs hpq rc
 | lt hp hq =>
  intro A v u hu rx ry
  cases rx; cases ry
  obtain ⟨its,r1,p1,z1⟩:=I.list hp
  obtain ⟨its2,r2,p2,z2⟩:=I.tuple hq
  exact ⟨.list_tuple p1.isList p2 (by lia),fun _ _ _ _=>.list_tuple p1.isList p2 (by lia)⟩
 | tl hp hq =>
  intro A v u hu rx ry
  cases rx; cases ry
  obtain ⟨its,r1,p1,z1⟩:=I.tuple hp
  obtain ⟨its2,r2,p2,z2⟩:=I.list hq
  exact ⟨.tuple_list p1 p2.isList (by lia),fun _ _ _ _=>.tuple_list p1 p2.isList (by lia)⟩
 | lf hp hy =>
  rename_i n p xs y
  intro A v u hu rx ry
  cases rx
  obtain ⟨its,r1,p1,z1⟩:=I.list hp
  refine ⟨?_,fun _ _ _ e=>by subst e; cases hy⟩
  cases y with
  | non=>cases ry; exact .list_none p1.isList (by lia)
  | bl b=>cases ry; exact .list_bool b p1.isList (by lia)
  | int b=>obtain ⟨t,rfl⟩:=ry; exact .list_int b t p1.isList (by lia)
  | str b=>obtain ⟨t,rfl⟩:=ry; exact .list_str b t p1.isList (by lia)
  | _=>cases hy
 | fl hp hy =>
  rename_i n p xs y
  intro A v u hu rx ry
  cases ry
  obtain ⟨its,r1,p1,z1⟩:=I.list hp
  refine ⟨?_,fun _ _ e _=>by subst e; cases hy⟩
  cases y with
  | non=>cases rx; exact .none_list p1.isList (by lia)
  | bl b=>cases rx; exact .bool_list b p1.isList (by lia)
  | int b=>obtain ⟨t,rfl⟩:=rx; exact .int_list b t p1.isList (by lia)
  | str b=>obtain ⟨t,rfl⟩:=rx; exact .str_list b t p1.isList (by lia)
  | _=>cases hy
 | tf hp hy =>
  rename_i n p xs y
  intro A v u hu rx ry
  cases rx
  obtain ⟨its,r1,p1,z1⟩:=I.tuple hp
  refine ⟨?_,fun _ _ _ e=>by subst e; cases hy⟩
  cases y with
  | non=>cases ry; exact .tuple_none p1 (by lia)
  | bl b=>cases ry; exact .tuple_bool b p1 (by lia)
  | int b=>obtain ⟨t,rfl⟩:=ry; exact .tuple_int b t p1 (by lia)
  | str b=>obtain ⟨t,rfl⟩:=ry; exact .tuple_str b t p1 (by lia)
  | _=>cases hy
 | ft hp hy =>
  rename_i n p xs y
  intro A v u hu rx ry
  cases ry
  obtain ⟨its,r1,p1,z1⟩:=I.tuple hp
  refine ⟨?_,fun _ _ e _=>by subst e; cases hy⟩
  cases y with
  | non=>cases rx; exact .none_tuple p1 (by lia)
  | bl b=>cases rx; exact .bool_tuple b p1 (by lia)
  | int b=>obtain ⟨t,rfl⟩:=rx; exact .int_tuple b t p1 (by lia)
  | str b=>obtain ⟨t,rfl⟩:=rx; exact .str_tuple b t p1 (by lia)
  | _=>cases hy
 | up h ih =>
  intro A v u hu rx ry
  exact ih A v u (by lia) rx ry
end
section
variable {X:Cx}
noncomputable def mEqK (K:Fgg):R2:=fun x y H Q=>match x,y with
 | .ref p,.ref q=>∃ n b,n≤50∧EqD K H n (.ref p) (.ref q) b∧Q (.bl b) H
 | _,_=>mEq x y H Q
noncomputable def mNeK (K:Fgg):R2:=fun x y H Q=>match x,y with
 | .ref p,.ref q=>∃ n b,n≤50∧EqD K H n (.ref p) (.ref q) b∧Q (.bl (!b)) H
 | _,_=>mNe x y H Q
theorem zaY_ (hu:X.A.units+60<cLine):OpR X (compareOp .Eq) (mEqK X.K):=by
 intro pins s σ H x y v u Q I rx ry h
 unfold mEqK at h
 split at h
 ·rename_i p q
  obtain ⟨n,b,hn,h,q⟩:=h
  have:=(zhY_ I h X.A v u (by lia) rx ry).2 _ _ rfl rfl
  exact this X.prog X.w X.xe _ ⟨.bl b,H,I,rfl,q⟩
 ·exact zmu_ pins s σ H x y v u Q I rx ry h
end
section
variable {X:Cx}{pins:Pnn}{σ:St}{H:Hp}{s:Shared}
theorem zmb_ (I:Inv X pins σ H s) {n:Nat}{x y:V}{b:Bool}(h:EqD X.K H n x y b):∀ (A:Around) (v u:Value),A.units+n<cLine→RelV x v→RelV y u→∀ p q,x=.ref p→y=.ref q→SeqAt.RcNeAt A s v u (!b):=by
 induction h with
 | flat hx hy=>intro A v u _ rx ry p q e _; subst e; cases hx
 | lst e hp hq hl h ih =>
  rename_i n p q xs ys
  intro A v u hu rx ry _ _ _ _
  cases rx; cases ry
  obtain ⟨its,r1,p1,z1⟩:=I.list hp
  obtain ⟨its2,r2,p2,z2⟩:=I.list hq
  have l1:=r1.length
  have l2:=r2.length
  have:=SeqAt.RcNeAt.lists (A:=A) (e:=e) p1.isList p2.isList (by simp only [List.size_toArray]; lia) (by lia) (fun j h1 h2=>by
   obtain ⟨x,ex,rx⟩:=zcC_ r1 h1
   obtain ⟨y,ey,ry⟩:=zcC_ r2 h2
   exact (zhY_ I (h j x y ex ey) A.in1 _ _ (by show A.units+1+n<_; lia) rx ry).1)
  rw [List.size_toArray,← l1] at this
  exact this
 | lstN hp hq hl =>
  intro A v u hu rx ry _ _ _ _
  cases rx; cases ry
  obtain ⟨its,r1,p1,z1⟩:=I.list hp
  obtain ⟨its2,r2,p2,z2⟩:=I.list hq
  have l1:=r1.length
  have l2:=r2.length
  exact SeqAt.RcNeAt.lists_lengths p1.isList p2.isList (by simp only [List.size_toArray,bne_iff_ne,ne_eq]; lia) (by lia)
 | tup e hp hq h ih =>
  rename_i n p q xs ys
  intro A v u hu rx ry _ _ _ _
  cases rx; cases ry
  obtain ⟨its,r1,p1,z1⟩:=I.tuple hp
  obtain ⟨its2,r2,p2,z2⟩:=I.tuple hq
  have l1:=r1.length
  have l2:=r2.length
  have:=SeqAt.RcNeAt.tuples (A:=A) (e:=e) (show s.heap.IsTuple p its.toArray from p1) (show s.heap.IsTuple q its2.toArray from p2) (by lia) (fun j h1 h2=>by
   obtain ⟨x,ex,rx⟩:=zcC_ r1 h1
   obtain ⟨y,ey,ry⟩:=zcC_ r2 h2
   exact (zhY_ I (h j x y ex ey) A.in1 _ _ (by show A.units+1+n<_; lia) rx ry).1)
  rw [List.size_toArray,List.size_toArray,← l1,← l2] at this
  exact this
 | lt hp hq =>
  intro A v u hu rx ry _ _ _ _
  cases rx; cases ry
  obtain ⟨its,r1,p1,z1⟩:=I.list hp
  obtain ⟨its2,r2,p2,z2⟩:=I.tuple hq
  exact .list_tuple p1.isList p2 (by lia)
 | tl hp hq =>
  intro A v u hu rx ry _ _ _ _
  cases rx; cases ry
  obtain ⟨its,r1,p1,z1⟩:=I.tuple hp
  obtain ⟨its2,r2,p2,z2⟩:=I.list hq
  exact .tuple_list p1 p2.isList (by lia)
 | lf hp hy=>intro A v u hu rx ry _ _ _ e; subst e; cases hy
 | fl hp hy=>intro A v u hu rx ry _ _ e _; subst e; cases hy
 | tf hp hy=>intro A v u hu rx ry _ _ _ e; subst e; cases hy
 | ft hp hy=>intro A v u hu rx ry _ _ e _; subst e; cases hy
 | up h ih=>intro A v u hu rx ry; exact ih A v u (by lia) rx ry
theorem ze6_ (hu:X.A.units+60<cLine):OpR X (compareOp .NotEq) (mNeK X.K):=by
 intro pins s σ H x y v u Q I rx ry h
 unfold mNeK at h
 split at h
 ·rename_i p q
  obtain ⟨n,b,hn,h,q⟩:=h
  have:=zmb_ I h X.A v u (by lia) rx ry _ _ rfl rfl
  exact this X.prog X.w X.xe _ ⟨.bl (!b),H,I,rfl,q⟩
 ·exact zlM_ pins s σ H x y v u Q I rx ry h
end
theorem Room.u60 {k:Nat}{A:Around}(r:Room k A):A.units+60<cLine:=by have:=r.units; lia
end L2
namespace LX
open PySem Builtin Builtin.Str
section
variable {prog:Program}{w:World}{A:Around}{E:Value→Shared→Prop}{s:Shared}{x:Str}{t:Tok}{Q:Value→Shared→Prop}
end
end LX
namespace L2
open PySem PySem.Spec PyProof.Rows
section
variable {X:Cx}
end
section
variable {X:Cx}{a b c d:Expr}{ta tb tc td:TE}{pos:Pos}
end
end L2
namespace L2
open PySem PySem.Spec PyProof.Rows
section
variable {κ:Type} [DecidableEq κ]
noncomputable def valV (kvs:List (κ×V)) (k:κ):Option V:=(kvs.find? fun kv=>decide (kv.1=k)).map (·.2)
noncomputable def putK (kvs:List (κ×V)) (k:κ) (v:V):List (κ×V) :=
 if (kvs.any fun kv=>decide (kv.1=k))=true then kvs.map (fun kv=>if kv.1=k then (kv.1,v) else kv) else kvs++[(k,v)]
theorem zfr_ {p:κ×V}{r:List (κ×V)}{k:κ}(e:p.1=k):valV (p::r) k=some p.2:=by simp [valV,List.find?_cons,e]
theorem zfs_ {p:κ×V}{r:List (κ×V)}{k:κ}(e:¬ p.1=k):valV (p::r) k=valV r k:=by simp [valV,List.find?_cons,e]
theorem zgY_ (k:κ):∀ kvs:List (κ×V),(kvs.any fun kv=>decide (kv.1=k))=(valV kvs k).isSome
 | []=>rfl
 | p::r=>by
  rw [List.any_cons]
  by_cases e:p.1=k
  ·simp only [zfr_ e,decide_eq_true e,Bool.true_or,Option.isSome_some]
  ·rw [zfs_ e,decide_eq_false e,Bool.false_or]; exact zgY_ k r
theorem zcz_ (kvs:List (κ×V)) (k:κ) (v:V):(putK kvs k v).length≤kvs.length+1:=by
 unfold putK
 split
 ·rw [List.length_map]; lia
 ·rw [List.length_append,List.length_cons,List.length_nil]; lia
theorem RelO.isSome_eq {o:Option V}{u:Option Value}(r:RelO o u):o.isSome=u.isSome:=by
 cases o with
 | none=>cases u with
  | none=>rfl
  | some _=>exact (show False from r).elim
 | some _=>cases u with
  | none=>exact (show False from r).elim
  | some _=>rfl
theorem RelO.getD {o:Option V}{u:Option Value}{d:V}{d':Value}(r:RelO o u) (rd:RelV d d'):RelV (o.getD d) (u.getD d'):=by
 cases o with
 | none=>cases u with
  | none=>exact rd
  | some _=>exact (show False from r).elim
 | some _=>cases u with
  | none=>exact (show False from r).elim
  | some _=>exact r
theorem KV.val {kvs:List (κ×V)}{vs:List (κ×Value)}(r:KV kvs vs) (k:κ):RelO (valV kvs k) (valueAt vs k):=by
 unfold KV at r
 induction r with
 | nil=>exact True.intro
 | @cons p q ps qs h t ih =>
  obtain ⟨h1,h2⟩:=h
  by_cases e:p.1=k
  ·have e':q.1=k:=h1.symm.trans e
   have b:valueAt (q::qs) k=some q.2:=by simp [valueAt,List.find?_cons,e']
   rw [zfr_ e,b]; exact h2
  ·have e':¬ q.1=k:=fun z=>e (h1.trans z)
   have b:valueAt (q::qs) k=valueAt qs k:=by simp [valueAt,List.find?_cons,e']
   rw [zfs_ e,b]; exact ih
theorem KV.any {kvs:List (κ×V)}{vs:List (κ×Value)}(r:KV kvs vs) (k:κ):(kvs.any fun kv=>decide (kv.1=k))=vs.any fun kv=>decide (kv.1=k):=by
 unfold KV at r
 induction r with
 | nil=>rfl
 | cons h t ih=>rw [List.any_cons,List.any_cons,ih,h.1]
theorem KV.repl {kvs:List (κ×V)}{vs:List (κ×Value)}(r:KV kvs vs) (k:κ) {y:V}{u:Value}(ry:RelV y u) :
  KV (kvs.map fun kv=>if kv.1=k then (kv.1,y) else kv) (vs.map fun kv=>if kv.1=k then (kv.1,u) else kv):=by
 unfold KV at r ⊢
 induction r with
 | nil=>exact .nil
 | @cons p q ps qs h t ih =>
  rw [List.map_cons,List.map_cons]
  refine .cons ?_ ih
  obtain ⟨h1,h2⟩:=h
  by_cases e:p.1=k
  ·rw [if_pos e,if_pos (h1.symm.trans e)]; exact ⟨h1,ry⟩
  ·rw [if_neg e,if_neg (fun z=>e (h1.trans z))]; exact ⟨h1,h2⟩
theorem KV.put {kvs:List (κ×V)}{vs:List (κ×Value)}(r:KV kvs vs) (k:κ) {y:V}{u:Value}(ry:RelV y u):KV (putK kvs k y) (stored vs k u):=by
 unfold putK stored
 rw [r.any k]
 by_cases e:(vs.any fun kv=>decide (kv.1=k))=true
 ·rw [if_pos e,if_pos e]; exact r.repl k ry
 ·rw [if_neg e,if_neg e]; exact Paired.snoc r ⟨rfl,ry⟩
theorem KV.length {kvs:List (κ×V)}{vs:List (κ×Value)}(r:KV kvs vs):kvs.length=vs.length:=Paired.length r
end
theorem ziQ_ {P:Program}{w:World}{k:Key}{u:Value}(r:RelV (kV k) u):(mixKind P w).is k u=true:=by
 cases k with
 | inl i=>obtain ⟨t,e⟩:=(show ∃ t,u=Value.int i t from r); subst e; exact zgm_ P w i t
 | inr x=>obtain ⟨t,e⟩:=(show ∃ t,u=Value.str x t from r); subst e; exact zf5_ P w x t
theorem zf1_ {P:Program}{w:World}:∀ {ks:List Key}{us:List Value},Vals (ks.map kV) us→ItemsAre (mixKind P w) ks us
 | [],_,r=>by rw [List.map_nil] at r; cases r; exact .nil
 | k::ks,_,r=>by
  rw [List.map_cons] at r
  cases r with
  | cons h t=>exact .cons (ziQ_ h) (zf1_ t)
noncomputable abbrev KT (H:Hp):List (List Key×V)→List (List Key×Addr×Value)→Prop:=Paired fun p q=>p.1=q.1∧H q.2.1=some (.tup (p.1.map kV))∧RelV p.2 q.2.2
theorem KT.val {H:Hp}{kvs:List (List Key×V)}{xs:List (List Key×Addr×Value)}(r:KT H kvs xs) (k:List Key):RelO (valV kvs k) ((atKey xs k).map (·.2)):=by
 induction r with
 | nil=>exact True.intro
 | @cons p q ps qs h t ih =>
  obtain ⟨h1,_,h2⟩:=h
  by_cases e:p.1=k
  ·have e':q.1=k:=h1.symm.trans e
   have b:atKey (q::qs) k=some q.2:=by simp [atKey,List.find?_cons,e']
   rw [zfr_ e,b]; exact h2
  ·have e':¬ q.1=k:=fun z=>e (h1.trans z)
   have b:atKey (q::qs) k=atKey qs k:=by simp [atKey,List.find?_cons,e']
   rw [zfs_ e,b]; exact ih
theorem KT.repl {H:Hp}{kvs:List (List Key×V)}{xs:List (List Key×Addr×Value)}(r:KT H kvs xs) (k:List Key) {y:V}{u:Value}(ry:RelV y u) :
  KT H (kvs.map fun kv=>if kv.1=k then (kv.1,y) else kv) (xs.map (putAt k u)):=by
 induction r with
 | nil=>exact .nil
 | @cons p q ps qs h t ih =>
  rw [List.map_cons,List.map_cons]
  refine .cons ?_ ih
  obtain ⟨h1,h2,h3⟩:=h
  unfold putAt
  by_cases e:p.1=k
  ·rw [if_pos e,if_pos (h1.symm.trans e)]; exact ⟨h1,h2,ry⟩
  ·rw [if_neg e,if_neg (fun z=>e (h1.trans z))]; exact ⟨h1,h2,h3⟩
theorem KT.put {H:Hp}{kvs:List (List Key×V)}{xs:List (List Key×Addr×Value)}(r:KT H kvs xs) (k:List Key) {b:Addr}{y:V}{u:Value}(hb:H b=some (.tup (k.map kV))) (ry:RelV y u) :
  KT H (putK kvs k y) (storedH xs k b u):=by
 have e:(kvs.any fun kv=>decide (kv.1=k))=(atKey xs k).isSome:=by
  rw [zgY_,(r.val k).isSome_eq,Option.isSome_map]
 unfold putK storedH
 rw [e]
 by_cases q:(atKey xs k).isSome=true
 ·rw [if_pos q,if_pos q]; exact r.repl k ry
 ·rw [if_neg q,if_neg q]; exact Paired.snoc r ⟨rfl,hb,ry⟩
theorem KT.keeps {H H':Hp}{kvs:List (List Key×V)}{xs:List (List Key×Addr×Value)}(r:KT H kvs xs) (ht:∀ b ys,H b=some (.tup ys)→H' b=some (.tup ys)):KT H' kvs xs :=
 Paired.mapP r fun _ _ z=>⟨z.1,ht _ _ z.2.1,z.2.2⟩
section
variable {P:Program}{w:World}{H:Hp}{h:Heap}{a:Addr}
theorem rd_of {u:HO}(ok:HOk P w H h) (e:Rd H a u):ObjOk P w H h a u:=e.ok ok
theorem zhR_ {kvs:List (Key×V)}(ok:HOk P w H h) (e:Rd H a (.dK kvs)):kvs.length≤sizeLine∧(a == sysModules)=false∧∃ vs,KV kvs vs∧h.DictOf (mixKind P w) a vs :=
 show ObjOk P w H h a (.dK kvs) from rd_of ok e
theorem zj5_ {kvs:List (Key×V)}(ok:HOk P w H h) (e:H a=some (.dK kvs)):kvs.length≤sizeLine∧(a == sysModules)=false∧∃ vs,KV kvs vs∧h.DictOf (mixKind P w) a vs:=zhR_ ok (.inl e)
theorem ze3_ {ks:List Key}(ok:HOk P w H h) (e:H a=some (.tup (ks.map kV))):(tupleKind (mixKind P w)).is h ks a:=by
 obtain ⟨_,its,r,o,h1,h2,n,h3⟩:=(show ObjOk P w H h a (.tup (ks.map kV)) from ok a _ e)
 exact ⟨o,its.toArray,n,h1,h2,h3,by simpa using zf1_ r⟩
theorem ziX_ {kvs:List (List Key×V)}(ok:HOk P w H h) (e:Rd H a (.dT kvs)):kvs.length≤sizeLine∧(a == sysModules)=false ∧
  ∃ xs,KT H kvs xs∧h.DictOfH (tupleKind (mixKind P w)) a xs:=by
 obtain ⟨z,y,xs,r,o,es,ep,h1,h2,h3,h4,h5⟩:=(show ObjOk P w H h a (.dT kvs) from rd_of ok e)
 refine ⟨z,y,xs,r,o,es,ep,h1,h2,h3,h4,fun x hx=>?_,h5⟩
 have all:∀ {l:List (List Key×V)}{m:List (List Key×Addr×Value)},KT H l m→∀ x∈m,(tupleKind (mixKind P w)).is h x.1 x.2.1:=by
  intro l m q
  induction q with
  | nil=>intro x hx; exact nomatch hx
  | @cons p q ps qs hq t ih =>
   intro x hx
   rcases List.mem_cons.mp hx with e | hx
   ·subst e
    exact ze3_ ok (by rw [← hq.1]; exact hq.2.1)
   ·exact ih x hx
 exact all r x hx
theorem dt_of {kvs:List (List Key×V)}(ok:HOk P w H h) (e:H a=some (.dT kvs)):kvs.length≤sizeLine∧(a == sysModules)=false ∧
  ∃ xs,KT H kvs xs∧h.DictOfH (tupleKind (mixKind P w)) a xs:=ziX_ ok (.inl e)
end
noncomputable def DGet (H:Hp) (a:Addr) (y:V) (r:Option V):Prop :=
 (∃ kvs k,Rd H a (.dK kvs)∧y=kV k∧r=valV kvs k)∨∃ kvs k b,Rd H a (.dT kvs)∧y=.ref b∧H b=some (.tup (k.map kV))∧r=valV kvs k
noncomputable def DPut (H:Hp) (a:Addr) (y v:V) (H':Hp):Prop :=
 (∃ kvs k,H a=some (.dK kvs)∧y=kV k∧kvs.length<sizeLine∧H'=upd H a (.dK (putK kvs k v))) ∨
 ∃ kvs k b,H a=some (.dT kvs)∧y=.ref b∧H b=some (.tup (k.map kV))∧kvs.length<sizeLine∧H'=upd H a (.dT (putK kvs k v))
theorem DGet.k {H:Hp}{a:Addr}{kvs:List (Key×V)}{k:Key}(e:H a=some (.dK kvs)):DGet H a (kV k) (valV kvs k):=.inl ⟨kvs,k,.inl e,rfl,rfl⟩
theorem DPut.k {H:Hp}{a:Addr}{kvs:List (Key×V)}{k:Key}{v:V}(e:H a=some (.dK kvs)) (hl:kvs.length<sizeLine):DPut H a (kV k) v (upd H a (.dK (putK kvs k v))):=.inl ⟨kvs,k,e,rfl,hl,rfl⟩
section
variable {X:Cx}{pins:Pnn}{σ:St}{H:Hp}{s:Shared}{a:Addr}{y v:V}{u r:Value}{o:Option V}{A:Around}{E:Value→Shared→Prop}
theorem Inv.big (I:Inv X pins σ H s):sysModules<s.heap.objs.size:=by
 have h:mainGlobals<s.heap.objs.size:=(I.mod.glob.keeps I.bk).lt
 exact Nat.lt_trans (by decide) h
theorem zin_ {Q:Value→Shared→Prop}(hu:A.units+1<cLine) (I:Inv X pins σ H s) (g:DGet H a y (some v)) (ry:RelV y u) (h:∀ w' s',Inv X pins σ H s'→RelV v w'→Q w' s') :
  wpAny (model X.prog X.w) A (getItem (.ref a) u) Q E s:=by
 rcases g with ⟨kvs,k,e,ey,l⟩ | ⟨kvs,k,b,e,ey,eb,l⟩
 ·subst ey
  obtain ⟨z,hd,vs,rel,dd⟩:=zhR_ I.hok e
  obtain ⟨w',hw,rw'⟩:=RelO.some_of (v:=v) (o:=valueAt vs k) (by rw [l]; exact rel.val k)
  exact wpAny_getItem_of (ziQ_ ry) dd.mapOf hw (h w' _ (I.tok _) rw')
 ·subst ey
  cases (show u=Value.ref b from ry)
  obtain ⟨z,hd,xs,rel,dd⟩:=ziX_ I.hok e
  obtain ⟨w',hw,rw'⟩:=RelO.some_of (v:=v) (o:=(atKey xs k).map (·.2)) (by rw [l]; exact rel.val k)
  obtain ⟨p,hp,hp2⟩:=Option.map_eq_some_iff.mp hw
  refine wpAny_getItem_heap (tupleKind_room_in1 hu) (ze3_ I.hok eb) dd hp ?_
  rw [hp2]
  exact h w' _ (I.tok _) rw'
theorem d_in {Q:Value→Shared→Prop}(hu:A.units+1<cLine) (I:Inv X pins σ H s) (g:DGet H a y o) (ry:RelV y u) (h:∀ s',Inv X pins σ H s'→Q (.bool o.isSome) s') :
  wpAny (model X.prog X.w) A (compareOp .In u (.ref a)) Q E s:=by
 rcases g with ⟨kvs,k,e,ey,l⟩ | ⟨kvs,k,b,e,ey,eb,l⟩
 ·subst ey
  obtain ⟨z,hd,vs,rel,dd⟩:=zhR_ I.hok e
  refine wpAny_in_of (ziQ_ ry) hd dd.mapOf ?_
  rw [← (rel.val k).isSome_eq,← l]
  exact h _ (I.tok _)
 ·subst ey
  cases (show u=Value.ref b from ry)
  obtain ⟨z,hd,xs,rel,dd⟩:=ziX_ I.hok e
  refine wpAny_in_heap (tupleKind_room_in1 hu) (ze3_ I.hok eb) hd dd ?_
  have q:=(rel.val k).isSome_eq
  rw [Option.isSome_map] at q
  rw [← q,← l]
  exact h _ (I.tok _)
theorem zkJ_ {Q:Value→Shared→Prop}(hu:A.units+1<cLine) (I:Inv X pins σ H s) (g:DGet H a y o) (ry:RelV y u) (h:∀ s',Inv X pins σ H s'→Q (.bool (!o.isSome)) s') :
  wpAny (model X.prog X.w) A (compareOp .NotIn u (.ref a)) Q E s:=by
 rcases g with ⟨kvs,k,e,ey,l⟩ | ⟨kvs,k,b,e,ey,eb,l⟩
 ·subst ey
  obtain ⟨z,hd,vs,rel,dd⟩:=zhR_ I.hok e
  refine wpAny_notIn_of (ziQ_ ry) hd dd.mapOf ?_
  rw [← (rel.val k).isSome_eq,← l]
  exact h _ (I.tok _)
 ·subst ey
  cases (show u=Value.ref b from ry)
  obtain ⟨z,hd,xs,rel,dd⟩:=ziX_ I.hok e
  refine wpAny_notIn_heap (tupleKind_room_in1 hu) (ze3_ I.hok eb) hd dd ?_
  have q:=(rel.val k).isSome_eq
  rw [Option.isSome_map] at q
  rw [← q,← l]
  exact h _ (I.tok _)
theorem zgP_ {h':Heap}{t':Nat}{ob:HO}(I:Inv X pins σ H s) (mu:Mut (H a)) (hs:Heap.SameBut a s.heap h') (he:∃ q,h'.get? a=some q) (new:ObjOk X.prog X.w (upd H a ob) h' a ob) :
  Inv X pins σ (upd H a ob) { s with heap:=h',toks:=t' } :=
 I.write (x:=a) (e:=a) mu (.inl rfl) (fun b q hb z=>(hs.2 b hb).trans z) he new
theorem zlg_ {P:Program}{w:World}{H':Hp}{h':Heap}{kvs:List (Key×V)}{vs:List (Key×Value)}(z:kvs.length≤sizeLine) (hd:(a == sysModules)=false) (rel:KV kvs vs) (dd:h'.DictOf (mixKind P w) a vs) :
  ObjOk P w H' h' a (.dK kvs):=⟨z,hd,vs,rel,dd⟩
theorem zhO_ {H':Hp}{Q:Unit→Shared→Prop}(hu:A.units+1<cLine) (I:Inv X pins σ H s) (g:DPut H a y v H') (ry:RelV y u) (rv:RelV v r) (h:∀ s',Inv X pins σ H' s'→Q () s') :
  wpAny (model X.prog X.w) A (setItem (.ref a) u r) Q E s:=by
 rcases g with ⟨kvs,k,e,ey,l,eH⟩ | ⟨kvs,k,b,e,ey,eb,l,eH⟩
 ·subst ey eH
  obtain ⟨z,hd,vs,rel,dd⟩:=zj5_ I.hok e
  have hz:vs.length≤sizeLine:=by rw [← rel.length]; exact z
  have hl:(putK kvs k v).length≤sizeLine:=by have:=zcz_ kvs k v; lia
  refine wpAny_setItem_pairs (hsz:=hz) (ziQ_ ry) dd fun h' dd' hs=>h _ ?_
  have he:∃ q,h'.get? a=some q:=let ⟨q,_,_,hq,_⟩:=dd'; ⟨q,hq⟩
  exact zgP_ I (by rw [e]; exact True.intro) hs he (zlg_ hl hd (rel.put k rv) dd')
 ·subst ey eH
  cases (show u=Value.ref b from ry)
  obtain ⟨z,hd,xs,rel,dd⟩:=dt_of I.hok e
  have hz:xs.length≤sizeLine:=by rw [← Paired.length rel]; exact z
  have hl:(putK kvs k v).length≤sizeLine:=by have:=zcz_ kvs k v; lia
  refine wpAny_setItem_heap (hsz:=hz) (tupleKind_room_in1 hu) (ze3_ I.hok eb) dd fun h' dd' hs=>h _ ?_
  obtain ⟨q,es,ep,hq,h2,h3,h4,_,h5⟩:=dd'
  refine zgP_ I (by rw [e]; exact True.intro) hs ⟨q,hq⟩ ⟨hl,hd,_,(rel.put k eb rv).keeps fun c ys ec=>?_,q,es,ep,hq,h2,h3,h4,h5⟩
  rw [zby_ (ne_of ec e (fun z=>nomatch z))]
  exact ec
end
section
variable {X:Cx}{pins:Pnn}{σ:St}{H:Hp}{s:Shared}{a:Addr}{kvs:List (Key×V)}{k:Key}{u:Value}{A:Around}{E:Value→Shared→Prop}
end
noncomputable def NoSl (i:Expr):Prop:=∀ ov iv,subscripted i false ov iv=operate [ov,iv] (getItem ov iv)
theorem zlo_ {prog:Program}{w:World}{A:Around}{E:Value→Shared→Prop}{s:Shared}{env:Env}{value slice:Expr}{pos:Pos}{T id:String}{Q:Value→Shared→Prop}
  (hl:typeLookup (.type T) "__getitem__" = pure (some (.builtin id))) (hs:NoSl slice)
  (h:wpAny (model prog w) A (eval value env) (fun o s₁=>wpAny (model prog w) A (eval slice env) (fun i s₂=>s₂.TypeIs o T∧wpAny (model prog w) A (getItem o i) Q E s₂) E s₁) E s) :
  wpAny (model prog w) A (eval (.Subscript value slice pos) env) Q E s:=by
 refine Subscript_ (wpAny_mono h (fun o s₁ h₁=>wpAny_mono h₁ (fun i s₂ h₂=>?_) fun _ _ x=>x) fun _ _ x=>x)
 obtain ⟨hT,h₂⟩:=h₂
 unfold subscriptTail
 refine wpAny_bind ?_
 rw [getitemInPython_of_ne hT.not_modules]
 refine wpAny_bind (wpAny_specialOf hT hl ?_)
 have fin:wpAny (model prog w) A (subscripted slice false o i) (fun r s₃=>wpAny (model prog w) A (letTemporaryGo value o r>>=fun _=>pure r) Q E s₃) E s₂:=by
  rw [hs o i]
  exact wpAny_operating (wpAny_mono h₂ (fun r s₃ h₃=>wpAny_bind (wpAny_letTemporaryGo (wpAny_pure h₃))) fun _ _ x=>x)
 first
  | exact wpAny_pure (wpAny_bind fin)
  | exact wpAny_bind (wpAny_pure (wpAny_bind fin))
  | exact wpAny_bind fin
theorem zgb_ {X:Cx}{pins:Pnn}{σ:St}{H:Hp}{s:Shared}{a:Addr}{y:V}{o:Option V}(I:Inv X pins σ H s) (g:DGet H a y o):s.TypeIs (.ref a) "dict" := by
 rcases g with ⟨kvs,k,e,_,_⟩ | ⟨kvs,k,b,e,_,_,_⟩
 ·obtain ⟨_,_,vs,_,dd⟩:=zhR_ I.hok e
  exact dd.typeIs
 ·obtain ⟨_,_,xs,_,dd⟩:=ziX_ I.hok e
  exact dd.typeIs
section
variable {X:Cx}{o i e value:Expr}{pos pos' tpos:Pos}{td ty tv:TE}
end
theorem zhi_ {P:Program}{w:World}{H:Hp}(h:Heap) (hb:sysModules<h.objs.size):ObjOk P w H (h.push { cls:=.type "dict",data:=.dict #[] }) h.objs.size (.dK []) :=
 ⟨Nat.zero_le _,beq_eq_false_iff_ne.mpr (Ne.symm (Nat.ne_of_lt hb)),[],.nil,Heap.DictOf.new h⟩
noncomputable def tDNewK:TE:=fun _ H Q=>∀ p,H p=none→Q (.ref p) (upd H p (.dK []))
section
variable {X:Cx}{pos:Pos}
theorem zgN_:PE X (.Dict [] [] pos) tDNewK:=fun pins s σ H Q I h =>
 wpAny_Dict_empty ⟨.ref s.heap.objs.size,_,I.laid (a:=s.heap.objs.size) (o:=.dK []) (t':=s.toks) (fun _ _ q=>Heap.get?_push_of_some _ q) (Nat.le_refl _) (zhi_ s.heap I.big),rfl,h _ (I.hok.fresh (Nat.le_refl _))⟩
end
structure M1 (X:Cx) (o:Expr) (m:Str) (apos:Pos) (e:Expr) (cpos:Pos):Prop where
 base:attributeBase o m X.env (eval o X.env)=eval o X.env
 few:((backTo cpos (starEach [e] X.env)).all (fun x=>!x.1) && (backToKw cpos (keywordEach [] X.env)).all (fun x=>x.1.isSome)
  && decide (([e]:List Expr).length+([]:List Keyword).length+(if ([]:List Keyword).isEmpty then 0 else 1)<30))=true
 line:(apos.endLine == cpos.line)=true
 trees:backTo cpos (starEach [e] X.env)=[(false,eval e X.env)]
structure M2 (X:Cx) (o:Expr) (m:Str) (apos:Pos) (e f:Expr) (cpos:Pos):Prop where
 base:attributeBase o m X.env (eval o X.env)=eval o X.env
 few:((backTo cpos (starEach [e,f] X.env)).all (fun x=>!x.1) && (backToKw cpos (keywordEach [] X.env)).all (fun x=>x.1.isSome)
  && decide (([e,f]:List Expr).length+([]:List Keyword).length+(if ([]:List Keyword).isEmpty then 0 else 1)<30))=true
 line:(apos.endLine == cpos.line)=true
 trees:backTo cpos (starEach [e,f] X.env)=[(false,eval e X.env),(false,eval f X.env)]
noncomputable def IsD (H:Hp) (a:Addr):Prop:=(∃ kvs,Rd H a (.dK kvs))∨∃ kvs,Rd H a (.dT kvs)
theorem zjZ_ {X:Cx}{pins:Pnn}{σ:St}{H:Hp}{s:Shared}{a:Addr}(I:Inv X pins σ H s) (d:IsD H a) :
  s.TypeIs (.ref a) "dict" ∧ (∀ b,Value.ref a=.ref b→∃ ob,s.heap.get? b=some ob∧ob.dict=none)∧(a == sysModules)=false:=by
 rcases d with ⟨kvs,e⟩ | ⟨kvs,e⟩
 ·obtain ⟨_,hd,vs,_,dd⟩:=zhR_ I.hok e
  refine ⟨dd.typeIs,fun b q=>?_,hd⟩
  cases q
  obtain ⟨ob,_,_,h1,h2,_⟩:=dd
  exact ⟨ob,h1,h2.2.1⟩
 ·obtain ⟨_,hd,xs,_,dd⟩:=ziX_ I.hok e
  refine ⟨dd.typeIs,fun b q=>?_,hd⟩
  cases q
  obtain ⟨ob,_,_,h1,h2,_⟩:=dd
  exact ⟨ob,h1,h2.2.1⟩
section
variable {X:Cx}{pins:Pnn}{σ:St}{H:Hp}{s:Shared}{a:Addr}{y d:V}{u r:Value}{o:Option V}{A:Around}{E:Value→Shared→Prop}
theorem zl3_ {Q:Value→Shared→Prop}(hu:A.units+1<cLine) (I:Inv X pins σ H s) (g:DGet H a y o) (ry:RelV y u) (h:∀ w' s',Inv X pins σ H s'→RelV (o.getD .non) w'→Q w' s') :
  wpAny (model X.prog X.w) A (call (.builtin "dict.get") [.ref a,u]) Q E s:=by
 rcases g with ⟨kvs,k,e,ey,l⟩ | ⟨kvs,k,b,e,ey,eb,l⟩
 ·subst ey
  obtain ⟨z,hd,vs,rel,dd⟩:=zhR_ I.hok e
  refine call_meetsIn PySem.F.slot_dict_get dd.typeIs PySem.F.entry_dict_get (PySem.F.args_dict_get_2 _ _) (meets_dict_get (mixKind X.prog X.w) a (ziQ_ ry) hd) ⟨_,dd.mapOf,h _ _ (I.tok _) ?_⟩
  rw [l]
  exact (rel.val k).getD rfl
 ·subst ey
  cases (show u=Value.ref b from ry)
  obtain ⟨z,hd,xs,rel,dd⟩:=ziX_ I.hok e
  refine call_meetsIn PySem.F.slot_dict_get dd.typeIs PySem.F.entry_dict_get (PySem.F.args_dict_get_2 _ _) (meetsH_dict_get (tupleKind (mixKind X.prog X.w)) a b hd) ⟨tupleKind_room_in1 hu,k,xs,ze3_ I.hok eb,dd,h _ _ (I.tok _) ?_⟩
  rw [l]
  exact (rel.val k).getD rfl
theorem zlN_ {Q:Value→Shared→Prop}(hu:A.units+1<cLine) (I:Inv X pins σ H s) (g:DGet H a y o) (ry:RelV y u) (rd:RelV d r) (h:∀ w' s',Inv X pins σ H s'→RelV (o.getD d) w'→Q w' s') :
  wpAny (model X.prog X.w) A (call (.builtin "dict.get") [.ref a,u,r]) Q E s:=by
 rcases g with ⟨kvs,k,e,ey,l⟩ | ⟨kvs,k,b,e,ey,eb,l⟩
 ·subst ey
  obtain ⟨z,hd,vs,rel,dd⟩:=zhR_ I.hok e
  refine call_meetsIn PySem.F.slot_dict_get dd.typeIs PySem.F.entry_dict_get (PySem.F.args_dict_get_3 _ _ _) (meets_dict_get_default (mixKind X.prog X.w) a (ziQ_ ry) hd r) ⟨_,dd.mapOf,h _ _ (I.tok _) ?_⟩
  rw [l]
  exact (rel.val k).getD rd
 ·subst ey
  cases (show u=Value.ref b from ry)
  obtain ⟨z,hd,xs,rel,dd⟩:=ziX_ I.hok e
  refine call_meetsIn PySem.F.slot_dict_get dd.typeIs PySem.F.entry_dict_get (PySem.F.args_dict_get_3 _ _ _) (meetsH_dict_get_default (tupleKind (mixKind X.prog X.w)) a b hd r) ⟨tupleKind_room_in1 hu,k,xs,ze3_ I.hok eb,dd,h _ _ (I.tok _) ?_⟩
  rw [l]
  exact (rel.val k).getD rd
end
section
variable {X:Cx}{o e f:Expr}{apos cpos:Pos}{td ty tx:TE}
end
section
variable {X:Cx}{pins:Pnn}{σ:St}{H:Hp}{s:Shared}{a:Addr}{kvs:List (Key×V)}{A:Around}{E:Value→Shared→Prop}
end
section
variable {X:Cx}{pins:Pnn}{σ:St}{H:Hp}{s:Shared}{a:Addr}{y:V}{u:Value}{A:Around}{E:Value→Shared→Prop}
namespace L2
open PySem PySem.Spec PyProof.Rows
section
variable {X:Cx}
end
section
variable {κ:Type} [DecidableEq κ]
end
end L2
end
end L2
namespace L2
open PySem PySem.Spec PyProof.Rows
section
variable {X:Cx}
noncomputable def insV (xs:List V) (k:Nat) (y:V):List V:=xs.take k++y::xs.drop k
noncomputable def mInsert:V→List V→Hp→VK→Prop:=fun x vs H Q=>match x,vs with
 | .ref l,[.int i,y]=>∃ xs,H l=some (.lst xs)∧xs.length<sizeLine∧(0≤i∧i<2 ^ 62)∧Q .non (upd H l (.lst (insV xs (min i.toNat xs.length) y)))
 | _,_=>False
theorem zib_:MtR X "list.insert" mInsert:=by
 intro pins s σ H x vs v us Q I rx rv h
 unfold mInsert at h
 split at h
 ·rename_i l i y
  obtain ⟨xs,hH,hz,⟨h0,h1⟩,q⟩:=h
  cases rx
  obtain ⟨u1,u2,rfl,⟨t,rfl⟩,r2⟩:=vals2 rv
  obtain ⟨z,its,n,r,hl,e⟩:=I.lstM hH
  have hfit:¬ (!Builtin.List.listFitsIndex i)=true:=by
   unfold Builtin.List.listFitsIndex
   simp
   lia
  refine call_meets F.slot_list_insert ⟨_,e,rfl⟩ F.entry_list_insert (F.args_list_insert_3 _ _ _) (AutoSeq1.list_insert_list_int_val_1 l its.toArray n i t u2 hfit (by rw [List.size_toArray]; lia)) ⟨e,?_⟩
  have hk:(if i<0 then (i+(its.toArray.size:Int)).toNat else min i.toNat its.toArray.size)=min i.toNat xs.length:=by
   rw [if_neg (by lia),List.size_toArray,hl]
  refine ⟨.non,_,I.lset (its':=its.take (min i.toNat xs.length)++u2::its.drop (min i.toNat xs.length)) hH e ?_ ((r.take _).append (.cons r2 (r.drop _))) ?_,rfl,q⟩
  ·show ((its.toArray.extract 0 (if i<0 then (i+(its.toArray.size:Int)).toNat else min i.toNat its.toArray.size)).push u2++its.toArray.extract (if i<0 then (i+(its.toArray.size:Int)).toNat else min i.toNat its.toArray.size))=_
   rw [hk]
   simp
   exact List.take_of_length_le (by rw [List.length_drop]; lia)
  ·rw [List.length_append,List.length_cons,List.length_take,List.length_drop]
   lia
 ·exact h.elim
end
section
variable {X:Cx}{elts:List Expr}{kk:Nat}{tpos:Pos}
end
theorem zjp_ (its:List Value):(List.range its.length).filterMap (fun k=>its[its.length-1-k]?)=its.reverse:=by
 have h:(List.range its.length).map (fun k=>its[its.length-1-k]?)=its.reverse.map some:=by
  refine List.ext_getElem (by simp) fun i h1 h2=>?_
  rw [List.length_map,List.length_range] at h1
  rw [List.getElem_map,List.getElem_range,List.getElem_map,List.getElem_reverse,List.getElem?_eq_getElem (by lia)]
 have e:(List.range its.length).filterMap (fun k=>its[its.length-1-k]?)=((List.range its.length).map (fun k=>its[its.length-1-k]?)).filterMap id:=by
  rw [List.filterMap_map]; rfl
 rw [e,h,List.filterMap_map]
 exact List.filterMap_some
theorem zcj_ {α β:Type}{f g:α→Option β}:∀ {l:List α},(∀ a∈l,f a=g a)→l.filterMap f=l.filterMap g
 | [],_=>rfl
 | a::l,h=>by rw [List.filterMap_cons,List.filterMap_cons,h a List.mem_cons_self,zcj_ fun b hb=>h b (List.mem_cons_of_mem _ hb)]
theorem zhA_:∀ {xs:List V}{us:List Value},Vals xs us→Vals xs.reverse us.reverse
 | _,_,.nil=>.nil
 | x::xs,u::us,.cons r t=>by rw [List.reverse_cons,List.reverse_cons]; exact (zhA_ t).append (.cons r .nil)
theorem zev_ (its:List Value):slicePick its.toArray none none (some (-1))=its.reverse.toArray:=by
 unfold slicePick
 have hb:sliceBounds none none (some (-1)) its.toArray.size=((its.length:Int)-1,-1,-1):=by
  simp [sliceBounds]
 rw [hb]
 congr 1
 unfold sliceRange
 simp only
 rw [List.filterMap_map,← zjp_ its]
 have hc:(if (-1:Int) > 0 then (if (its.length:Int)-1 < -1 then (-1-((its.length:Int)-1) + -1-1) / -1 else 0) else if (its.length:Int)-1 > -1 then ((its.length:Int)-1 - -1 - -1-1) / - -1 else 0)=(its.length:Int):=by
  rw [if_neg (by decide)]
  split
  ·rw [show (- -1:Int)=1 by decide,Int.ediv_one]; lia
  ·lia
 rw [hc,Int.toNat_natCast]
 refine zcj_ fun k hk=>?_
 have hk:=List.mem_range.mp hk
 show its.toArray[((its.length:Int)-1 + -1*(k:Int)).toNat]?=its[its.length-1-k]?
 rw [show ((its.length:Int)-1 + -1*(k:Int)).toNat=its.length-1-k by lia]
 simp
section
variable {X:Cx}{e st:Expr}{te:TE}{ts:TO}{pos p2:Pos}
noncomputable def tRev (K:Fgg) (te:TE) (ts:TO):TE:=fun σ H Q=>te σ H fun x H1=>ts σ H1 fun o H2=>o=some (-1)∧match x with
 | .ref a=>∃ xs,SqL K H2 a xs∧∀ p,H2 p=none→Q (.ref p) (upd H2 p (.lst xs.reverse))
 | _=>False
theorem zmx_ (he:PE X e te) (hs:PO X (some st) ts):PE X (.Subscript e (.Slice none none (some st) p2) pos) (tRev X.K te ts):=by
 intro pins s σ H Q I h
 refine Subscript_ (thn (he pins s σ H _ I h) fun v s1 ⟨x,H1,I1,r1,q1⟩=>?_)
 have pn:∀ (s:Shared) (Q':Value→Shared→Prop),Q' .none s→wpAny (model X.prog X.w) X.A (evalPart none X.env) Q' X.xe s:=fun s Q' q=>by rw [evalPart_none]; exact wpAny_pure q
 refine wpAny_Slice (pn _ _ (pn _ _ ?_))
 refine thn (hs pins s1 σ H1 _ I1 q1) fun vst s3 ⟨o,H3,I3,po,eo,q3⟩=>?_
 subst eo
 cases x with
 | ref a =>
  obtain ⟨xs,hx,q⟩:=q3
  cases r1
  have I4:Inv X pins σ H3 { s3 with heap:=s3.heap.push { cls:=.type "slice",data:=.fields #[.none,.none,vst] } }:=I3.kept (t':=s3.toks) fun b ob q=>Heap.get?_push_of_some _ q
  obtain ⟨its,r,ht,hz⟩:=I4.list hx
  have hlen:=r.length
  show wpAny (model X.prog X.w) X.A (subscriptTail e (.Slice none none (some st) p2) (.ref a) (.ref s3.heap.objs.size)) (EP X pins σ Q) X.xe { s3 with heap:=s3.heap.push { cls:=.type "slice",data:=.fields #[.none,.none,vst] } }
  refine tail_any (ops:=[.ref a,.ref s3.heap.objs.size]) ht.isList.typeIs slot_list_getitem.lookup ?_ (by with_unfolding_all rfl)
  refine wpAny_getItem_list_slice ht.isList (Heap.IsSliceOf.new ..) .none .none po (by simp) ?_ (by rw [List.size_toArray]<;>lia)
  rw [zev_]
  refine ⟨.ref _,_,I4.laid (t':=s3.toks) (o:=.lst xs.reverse) (fun b ob q=>Heap.get?_push_of_some _ q) (Nat.le_refl _) ?_,rfl,q _ (I4.hok.fresh (Nat.le_refl _))⟩
  refine ⟨by rw [List.length_reverse]; exact hz,its.reverse,0,?_,Heap.get?_push_size _ rfl⟩
  exact zhA_ r
 | _=>exact q3.elim
end
end L2
namespace L2
open PySem PySem.Spec PyProof.Rows
noncomputable def keyV:V→Option Key
 | .int i=>some (.inl i)
 | .str z=>some (.inr z)
 | _=>none
theorem zli_ {y:V}{k:Key}(h:keyV y=some k):y=kV k:=by
 cases y<;>first | (cases h; rfl) | cases h
noncomputable def atD (x y:V) (H:Hp) (R:Addr→List (Key×V)→Key→Prop):Prop:=match x with
 | .ref a=>(match keyV y with | some k=>∃ kvs,H a=some (.dK kvs)∧R a kvs k | none=>False)
 | _=>False
theorem zfn_ {x y:V}{H:Hp}{R:Addr→List (Key×V)→Key→Prop}(h:atD x y H R):∃ a kvs k,x=.ref a∧y=kV k∧H a=some (.dK kvs)∧R a kvs k:=by
 unfold atD at h
 cases x with
 | ref a =>
  cases e:keyV y with
  | none=>rw [e] at h; exact h.elim
  | some k =>
   rw [e] at h
   obtain ⟨kvs,h1,h2⟩:=h
   exact ⟨a,kvs,k,rfl,zli_ e,h1,h2⟩
 | _=>exact h.elim
noncomputable def mDGet (td ty:TE):TE:=fun σ H Q=>td σ H fun x H1=>ty σ H1 fun y H2=>atD x y H2 fun _ kvs k=>∃ v,valV kvs k=some v∧Q v H2
noncomputable def mDIn (neg:Bool) (ty td:TE):TE:=fun σ H Q=>ty σ H fun y H1=>td σ H1 fun x H2=>atD x y H2 fun _ kvs k=>Q (.bl (if neg then !(valV kvs k).isSome else (valV kvs k).isSome)) H2
noncomputable def mDPut (td ty tv:TE):TS:=fun D σ H=>tv σ H fun v H1=>td σ H1 fun x H2=>ty σ H2 fun y H3=>atD x y H3 fun a kvs k=>kvs.length<sizeLine∧D.nx σ (upd H3 a (.dK (putK kvs k v)))
section
variable {X:Cx}{o i e value:Expr}{pos pos' tpos:Pos}{td ty tv:TE}
theorem zeY_ (hu:X.A.units+60<cLine) (ho:PE X o td) (hi:PE X i ty) (hs:NoSl i:=by exact fun _ _=>rfl):PE X (.Subscript o i pos) (mDGet td ty):=by
 intro pins s σ H Q I h
 refine zlo_ PySem.F.slot_dict_getitem.lookup hs (thn (ho pins s σ H _ I h) fun u s1 ⟨x,H1,I1,rx,q1⟩=>thn (hi pins s1 σ H1 _ I1 q1) fun iv s2 ⟨y,H2,I2,ry,q2⟩=>?_)
 obtain ⟨a,kvs,k,rfl,rfl,hd,v,hv,q⟩:=zfn_ q2
 obtain rfl:u=Value.ref a:=rx
 have g:DGet H2 a (kV k) (some v):=by rw [← hv]; exact DGet.k hd
 exact ⟨zgb_ I2 g,zin_ (by lia) I2 g ry fun w' s3 I3 rw'=>⟨v,H2,I3,rw',q⟩⟩
theorem zkl_ (hu:X.A.units+60<cLine) (hi:PE X i ty) (ho:PE X o td):PC X .In i o (mDIn false ty td):=by
 intro pins s σ H Q I h
 refine thn (hi pins s σ H _ I h) fun iv s1 ⟨y,H1,I1,ry,q1⟩=>thn (ho pins s1 σ H1 _ I1 q1) fun u s2 ⟨x,H2,I2,rx,q2⟩=>?_
 obtain ⟨a,kvs,k,rfl,rfl,hd,q⟩:=zfn_ q2
 obtain rfl:u=Value.ref a:=rx
 exact d_in (by lia) I2 (DGet.k (k:=k) hd) ry fun s3 I3=>⟨.bl (valV kvs k).isSome,H2,I3,rfl,q⟩
theorem zg5_ (hu:X.A.units+60<cLine) (hi:PE X i ty) (ho:PE X o td):PC X .NotIn i o (mDIn true ty td):=by
 intro pins s σ H Q I h
 refine thn (hi pins s σ H _ I h) fun iv s1 ⟨y,H1,I1,ry,q1⟩=>thn (ho pins s1 σ H1 _ I1 q1) fun u s2 ⟨x,H2,I2,rx,q2⟩=>?_
 obtain ⟨a,kvs,k,rfl,rfl,hd,q⟩:=zfn_ q2
 obtain rfl:u=Value.ref a:=rx
 exact zkJ_ (by lia) I2 (DGet.k (k:=k) hd) ry fun s3 I3=>⟨.bl (!(valV kvs k).isSome),H2,I3,rfl,q⟩
theorem zdm_ (hu:X.A.units+60<cLine) (ho:PE X o td) (hi:PE X i ty) (hv:PE X value tv) (hs:swapsWith value (some (.Subscript o i pos')) pos.line X.env=pure false:=by rfl) :
  PS X (.Assign [.Subscript o i pos'] value pos) (mDPut td ty tv):=by
 intro pins s σ H D I h
 refine wpAny_Assign_Subscript (thn (hv pins s σ H _ I h) fun r s1 ⟨v,H1,I1,rv,q1⟩=>thn (ho pins s1 σ H1 _ I1 q1) fun u s2 ⟨x,H2,I2,rx,q2⟩=>thn (hi pins s2 σ H2 _ I2 q2) fun iv s3 ⟨y,H3,I3,ry,q3⟩=>?_) hs
 obtain ⟨a,kvs,k,rfl,rfl,hd,hl,q⟩:=zfn_ q3
 obtain rfl:u=Value.ref a:=rx
 exact zhO_ (by lia) I3 (DPut.k hd hl) ry rv fun s4 I4=>⟨σ,_,I4,q⟩
end
section
variable {X:Cx}{o e f:Expr}{apos cpos:Pos}{td ty tx':TE}
noncomputable def mDGet1 (td ty:TE):TE:=fun σ H Q=>td σ H fun x H1=>(match x with | .ref a=>∃ kvs,H1 a=some (.dK kvs) | _=>False)∧ty σ H1 fun y H2=>atD x y H2 fun _ kvs k=>Q ((valV kvs k).getD .non) H2
noncomputable def mDGet2 (td ty tx':TE):TE:=fun σ H Q=>td σ H fun x H1=>(match x with | .ref a=>∃ kvs,H1 a=some (.dK kvs) | _=>False)∧ty σ H1 fun y H2=>tx' σ H2 fun z H3=>atD x y H3 fun _ kvs k=>Q ((valV kvs k).getD z) H3
theorem zh6_ (hu:X.A.units+60<cLine) (ho:PE X o td) (he:PE X e ty) (m:M1 X o "get" apos e cpos:=by exact ⟨rfl,rfl,rfl,rfl⟩):PE X (.Call (.Attribute o "get" apos) [e] [] cpos) (mDGet1 td ty):=by
 intro pins s σ H Q I h
 refine wpAny_Call_method m.base m.few m.line PySem.F.plainAttrs_dict PySem.F.slot_dict_get PySem.F.type_dict_get (thn (ho pins s σ H _ I h) fun u s1 ⟨x,H1,I1,rx,hx,q1⟩=>?_)
 cases x with
 | ref a =>
  obtain ⟨kvs0,hd0⟩:=hx
  obtain rfl:u=Value.ref a:=rx
  obtain ⟨t1,t2,_⟩:=zjZ_ I1 (.inl ⟨kvs0,.inl hd0⟩)
  refine ⟨t1,t2,?_⟩
  rw [m.trees]
  refine Calls.callWith_builtin rfl (Calls.evalArgs_plain (Calls.spliced_cons (thn (he pins s1 σ H1 _ I1 q1) fun iv s2 ⟨y,H2,I2,ry,q2⟩=>Calls.spliced_nil ?_)))
  obtain ⟨a',kvs,k,ea,rfl,hd,q⟩:=zfn_ q2
  cases ea
  exact zl3_ (by lia) I2 (DGet.k (k:=k) hd) ry fun w' s3 I3 rw'=>⟨_,H2,I3,rw',q⟩
 | _=>exact hx.elim
theorem ziz_ (hu:X.A.units+60<cLine) (ho:PE X o td) (he:PE X e ty) (hf:PE X f tx') (m:M2 X o "get" apos e f cpos:=by exact ⟨rfl,rfl,rfl,rfl⟩):PE X (.Call (.Attribute o "get" apos) [e,f] [] cpos) (mDGet2 td ty tx'):=by
 intro pins s σ H Q I h
 refine wpAny_Call_method m.base m.few m.line PySem.F.plainAttrs_dict PySem.F.slot_dict_get PySem.F.type_dict_get (thn (ho pins s σ H _ I h) fun u s1 ⟨x,H1,I1,rx,hx,q1⟩=>?_)
 cases x with
 | ref a =>
  obtain ⟨kvs0,hd0⟩:=hx
  obtain rfl:u=Value.ref a:=rx
  obtain ⟨t1,t2,_⟩:=zjZ_ I1 (.inl ⟨kvs0,.inl hd0⟩)
  refine ⟨t1,t2,?_⟩
  rw [m.trees]
  refine Calls.callWith_builtin rfl (Calls.evalArgs_plain (Calls.spliced_cons (thn (he pins s1 σ H1 _ I1 q1) fun iv s2 ⟨y,H2,I2,ry,q2⟩ =>
   Calls.spliced_cons (thn (hf pins s2 σ H2 _ I2 q2) fun fv s3 ⟨z,H3,I3,rz,q3⟩=>Calls.spliced_nil ?_))))
  obtain ⟨a',kvs,k,ea,rfl,hd,q⟩:=zfn_ q3
  cases ea
  exact zlN_ (by lia) I3 (DGet.k (k:=k) hd) ry rz fun w' s4 I4 rw'=>⟨_,H3,I4,rw',q⟩
 | _=>exact hx.elim
end
section
variable {X:Cx}{o i:Expr}{pos:Pos}{td ty:TE}
theorem zg4_ {op:CmpOp}{a b:Expr}{t:TE}(h:PC X op a b t) (h1:behindInMarks op b=false):PT X (.Compare a [op] [b] pos) (mTest t):=by
 intro pins s σ H Q I hw
 refine wpAny_isTrue_Compare1 (thn (h pins s σ H _ I hw) fun v s1 q=>thn q fun u s2 q=>thn q fun c s3 ⟨x,H1,I1,r,q⟩=>?_) h1
 cases x with
 | bl k=>cases r; exact wpAny_truthy_bool ⟨H1,I1,q⟩
 | _=>exact q.elim
theorem zkh_ (hu:X.A.units+60<cLine) (hi:PE X i ty) (ho:PE X o td) (h1:behindInMarks .In o=false:=by rfl):PT X (.Compare i [.In] [o] pos) (mTest (mDIn false ty td)):=zg4_ (zkl_ hu hi ho) h1
theorem zcU_ (hu:X.A.units+60<cLine) (hi:PE X i ty) (ho:PE X o td) (h1:behindInMarks .NotIn o=false:=by rfl):PT X (.Compare i [.NotIn] [o] pos) (mTest (mDIn true ty td)):=zg4_ (zg5_ hu hi ho) h1
end
end L2
namespace L2
open PySem PySem.Spec PyProof.Rows
inductive Mo (α:Type) where
 | ok (a:α) | ex (c:String) | no
namespace Mo
variable {α β γ:Type}
noncomputable def bind (x:Mo α) (f:α→Mo β):Mo β:=match x with | .ok a=>f a | .ex c=>.ex c | .no=>.no
theorem ok_bind (a:α) (f:α→Mo β):(Mo.ok a).bind f=f a:=rfl
noncomputable def noex (x:Mo α):Mo α:=match x with | .ok a=>.ok a | _=>.no
noncomputable def lim (n:Nat) (k:Mo α):Mo α:=if n≤sizeLine then k else .no
theorem lim_ok {n:Nat}{k:Mo α}(h:n≤100000):lim n k=k:=if_pos (zbH_ h)
noncomputable def grd (p:Prop) [Decidable p] (k:Mo α):Mo α:=if p then k else .no
theorem grd_ok {p:Prop} [Decidable p] {k:Mo α}(h:p):grd p k=k:=if_pos h
noncomputable def opt (x:Option α):Mo α:=match x with | some a=>.ok a | none=>.no
end Mo
noncomputable def un (F h:Hp):Hp:=fun p=>match F p with | some o=>some o | none=>h p
noncomputable def Dj (F h:Hp):Prop:=∀ p,F p=none∨h p=none
noncomputable def Jn (h1 h2 h:Hp):Prop:=∀ p,(h1 p=none∧h p=h2 p)∨(h2 p=none∧h p=h1 p)
noncomputable def Ext (F H F' H':Hp):Prop:=Same F F'∧Same F' H'∧Same H H'∧∀ p,F p=none→F' p≠none→H p=none
theorem Ext.refl {F H:Hp}(h:Same F H):Ext F H F H:=⟨Same.refl _,h,Same.refl _,fun p a b=>absurd a b⟩
theorem Ext.trans {F H F1 H1 F2 H2:Hp}(a:Ext F H F1 H1) (b:Ext F1 H1 F2 H2):Ext F H F2 H2:=by
 obtain ⟨a1,a2,a3,a4⟩:=a
 obtain ⟨b1,b2,b3,b4⟩:=b
 refine ⟨a1.trans b1,b2,a3.trans b3,fun p hp hq=>?_⟩
 cases e:F1 p with
 | none=>exact a3.free (b4 p e hq)
 | some o=>exact a4 p hp (by rw [e]; exact Option.some_ne_none _)
theorem Ext.heap {F H H':Hp}(h:Same F H) (g:Same H H'):Ext F H F H':=⟨Same.refl _,h.trans g,g,fun p a b=>absurd a b⟩
theorem Ext.new {F H:Hp}(h:Same F H) {p:Addr}{o:HO}(hp:H p=none):Ext F H (upd F p o) (upd H p o):=by
 refine ⟨zb4_ (h.free hp) _,fun b u e=>?_,zb4_ hp _,fun q a b=>?_⟩
 ·unfold upd at e ⊢
  split
  ·rename_i z; rw [if_pos z] at e; exact e
  ·rename_i z; rw [if_neg z] at e; exact h _ _ e
 ·unfold upd at b
  split at b
  ·rename_i z; rw [z]; exact hp
  ·exact absurd a b
structure Ty (α:Type) where
 R:α→V→Hp→Prop
 mono:∀ {a v H H'},Same H H'→R a v H→R a v H'
noncomputable def Tups (H H':Hp):Prop:=∀ p xs,H p=some (.tup xs)→H' p=some (.tup xs)
noncomputable def Imm {α:Type}(T:Ty α):Prop:=∀ {a v H H'},Tups H H'→T.R a v H→T.R a v H'
noncomputable abbrev tyInt:Ty Int:=⟨fun a v _=>v=.int a,fun _ h=>h⟩
noncomputable abbrev tyStr:Ty (List Nat):=⟨fun a v _=>v=tx a,fun _ h=>h⟩
noncomputable abbrev tyBl:Ty Bool:=⟨fun a v _=>v=.bl a,fun _ h=>h⟩
noncomputable abbrev tyNon:Ty Unit:=⟨fun _ v _=>v=.non,fun _ h=>h⟩
theorem z3_:Imm tyInt:=fun _ h=>h
theorem z4_:Imm tyStr:=fun _ h=>h
theorem zdi_:Imm tyBl:=fun _ h=>h
noncomputable abbrev tyOpt {α:Type}(T:Ty α):Ty (Option α):=⟨fun a v H=>match a with | none=>v=.non | some x=>T.R x v H∧v≠.non,fun {a v H H'} g h=>by cases a with | none=>exact h | some x=>exact ⟨T.mono g h.1,h.2⟩⟩
theorem zfN_ {α:Type}{T:Ty α}(i:Imm T):Imm (tyOpt T):=fun {a v H H'} g h=>by cases a with | none=>exact h | some x=>exact ⟨i g h.1,h.2⟩
structure Cs (γ:Type) where
 R:γ→List V→Hp→Prop
 mono:∀ {c vs H H'},Same H H'→R c vs H→R c vs H'
noncomputable abbrev csLast {α:Type}(T:Ty α):Cs α:=⟨fun a vs H=>∃ v,vs=[v]∧T.R a v H,fun g ⟨v,e,h⟩=>⟨v,e,T.mono g h⟩⟩
noncomputable abbrev csCons {α γ:Type}(T:Ty α) (C:Cs γ):Cs (α×γ):=⟨fun a vs H=>∃ v us,vs=v::us∧T.R a.1 v H∧C.R a.2 us H,fun g ⟨v,us,e,h,q⟩=>⟨v,us,e,T.mono g h,C.mono g q⟩⟩
noncomputable abbrev tyTup {γ:Type}(C:Cs γ):Ty γ:=⟨fun c v H=>∃ p us,v=.ref p∧H p=some (.tup us)∧C.R c us H,fun g ⟨p,us,e,h,q⟩=>⟨p,us,e,g _ _ h,C.mono g q⟩⟩
noncomputable abbrev Prs {α:Type}(T:Ty α) (H:Hp) (xs:List α) (vs:List V):Prop:=Paired (fun x v=>T.R x v H) xs vs
theorem zbR_ {α β:Type}{R R':α→β→Prop}(h:∀ a b,R a b→R' a b):∀ {xs:List α}{ys:List β},Paired R xs ys→Paired R' xs ys
 | _,_,.nil=>.nil
 | _,_,.cons a t=>.cons (h _ _ a) (zbR_ h t)
theorem Prs.mono {α:Type}{T:Ty α}{H H':Hp}{xs:List α}{vs:List V}(g:Same H H') (h:Prs T H xs vs):Prs T H' xs vs:=zbR_ (fun _ _ r=>T.mono g r) h
theorem Prs.imm {α:Type}{T:Ty α}(i:Imm T) {H H':Hp}{xs:List α}{vs:List V}(g:Tups H H') (h:Prs T H xs vs):Prs T H' xs vs:=zbR_ (fun _ _ r=>i g r) h
noncomputable abbrev tyL {α:Type}(T:Ty α):Ty (List α):=⟨fun xs v H=>∃ p vs,v=.ref p∧H p=some (.lst vs)∧Prs T H xs vs,fun g ⟨p,vs,e,h,q⟩=>⟨p,vs,e,g _ _ h,q.mono g⟩⟩
noncomputable abbrev tySc (K:Fgg):Ty (List Int):=⟨fun xs v H=>∃ p,v=.ref p∧SqL K H p (xs.map V.int),fun g ⟨p,e,h⟩=>⟨p,e,g.seq h⟩⟩
structure Own (α:Type) where
 O:α→V→Hp→Hp→Prop
 fr:Ty α
 mono:∀ {a v F F' h},Same F F'→O a v F h→O a v F' h
 frz:∀ {a v F h},Dj F h→O a v F h→fr.R a v (un F h)
 notup:∀ {a v F h},O a v F h→∀ p xs,h p≠some (.tup xs)
noncomputable def ImmO {α:Type}(O:Own α):Prop:=∀ {a v F F' h},Tups F F'→O.O a v F h→O.O a v F' h
theorem zcE_ {F h:Hp}:Same F (un F h):=fun p o e=>by unfold un; rw [e]
theorem zhX_ {F h:Hp}(d:Dj F h):Same h (un F h):=fun p o e=>by
 unfold un
 rcases d p with z | z
 ·rw [z]; exact e
 ·rw [z] at e; cases e
noncomputable abbrev owF {α:Type}(T:Ty α):Own α:=⟨fun a v F h=>(∀ p,h p=none)∧T.R a v F,T,fun g ⟨e,h⟩=>⟨e,T.mono g h⟩,fun _ ⟨_,h⟩=>T.mono zcE_ h,fun ⟨e,_⟩ p xs z=>by rw [e] at z; cases z⟩
theorem zbu_ {α:Type}{T:Ty α}(i:Imm T):ImmO (owF T):=fun g ⟨e,h⟩=>⟨e,i g h⟩
noncomputable def one (p:Addr) (o:HO):Hp:=fun q=>if q=p then some o else none
theorem zcu_ {p:Addr}{o:HO}:one p o p=some o:=if_pos rfl
noncomputable abbrev owL {α:Type}(T:Ty α):Own (List α):=⟨fun xs v F h=>∃ p vs,v=.ref p∧h=one p (.lst vs)∧Prs T F xs vs,tyL T,fun g ⟨p,vs,e,z,q⟩=>⟨p,vs,e,z,q.mono g⟩,
 fun d ⟨p,vs,e,z,q⟩=>⟨p,vs,e,zhX_ d _ _ (by rw [z]; exact zcu_),q.mono zcE_⟩,
 fun ⟨p,vs,e,z,q⟩ b xs y=>by rw [z] at y; unfold one at y; split at y<;>cases y⟩
theorem zbl_ {α:Type}{T:Ty α}(i:Imm T):ImmO (owL T):=fun g ⟨p,vs,e,z,q⟩=>⟨p,vs,e,z,q.imm i g⟩
inductive Sl:Type 1 where
 | dead
 | fz {α:Type}(T:Ty α) (a:α)
 | ow {α:Type}(O:Own α) (a:α)
noncomputable def Sl.P:Sl→Option V→Hp→Hp→Prop
 | .dead,_,_,_=>True
 | .fz T a,o,F,_=>∃ v,o=some v∧T.R a v F
 | .ow O a,o,F,h=>∃ v,o=some v∧O.O a v F h
noncomputable def Sl.Z:Sl→Option V→Hp→Prop
 | .dead,_,_=>True
 | .fz T a,o,F=>∃ v,o=some v∧T.R a v F
 | .ow O a,o,F=>∃ v,o=some v∧O.fr.R a v F
noncomputable def Sl.cold:Sl→Sl
 | .ow _ _=>.dead
 | s=>s
noncomputable def Hold:List Sl→St→Hp→Hp→Prop
 | [],[],_,_=>True
 | s::L,o::σ,F,h=>∃ h1 h2,Jn h1 h2 h∧s.P o F h1∧Hold L σ F h2
 | _,_,_,_=>False
noncomputable def HoldF (L:List Sl) (σ:St) (F:Hp):Prop:=∀ (i:Nat) (s:Sl),L[i]?=some s→s.Z (σ[i]?.join) F
theorem Sl.P.mono {s:Sl}{o:Option V}{F F' h:Hp}(g:Same F F') (q:s.P o F h):s.P o F' h:=by
 cases s with
 | dead=>exact q
 | fz T a=>obtain ⟨v,e,r⟩:=q; exact ⟨v,e,T.mono g r⟩
 | ow O a=>obtain ⟨v,e,r⟩:=q; exact ⟨v,e,O.mono g r⟩
theorem Sl.Z.mono {s:Sl}{o:Option V}{F F':Hp}(g:Same F F') (q:s.Z o F):s.Z o F':=by
 cases s with
 | dead=>exact q
 | fz T a=>obtain ⟨v,e,r⟩:=q; exact ⟨v,e,T.mono g r⟩
 | ow O a=>obtain ⟨v,e,r⟩:=q; exact ⟨v,e,O.fr.mono g r⟩
theorem HoldF.mono {L:List Sl}{σ:St}{F F':Hp}(g:Same F F') (q:HoldF L σ F):HoldF L σ F':=fun i s e=>(q i s e).mono g
theorem Hold.mono:∀ {L:List Sl}{σ:St}{F F' h:Hp},Same F F'→Hold L σ F h→Hold L σ F' h
 | [],[],_,_,_,_,q=>q
 | s::L,o::σ,F,F',h,g,⟨h1,h2,j,p,r⟩=>⟨h1,h2,j,p.mono g,r.mono g⟩
 | [],_::_,_,_,_,_,q=>q.elim
 | _::_,[],_,_,_,_,q=>q.elim
theorem Hold.len:∀ {L:List Sl}{σ:St}{F h:Hp},Hold L σ F h→L.length=σ.length
 | [],[],_,_,_=>rfl
 | s::L,o::σ,F,h,⟨h1,h2,j,p,r⟩=>by rw [List.length_cons,List.length_cons,r.len]
 | [],_::_,_,_,q=>q.elim
 | _::_,[],_,_,q=>q.elim
theorem Jn.l {h1 h2 h:Hp}(j:Jn h1 h2 h):Same h1 h:=fun p o e=>by
 rcases j p with ⟨a,b⟩ | ⟨a,b⟩
 ·rw [a] at e; cases e
 ·rw [b]; exact e
theorem Jn.r {h1 h2 h:Hp}(j:Jn h1 h2 h):Same h2 h:=fun p o e=>by
 rcases j p with ⟨a,b⟩ | ⟨a,b⟩
 ·rw [b]; exact e
 ·rw [a] at e; cases e
theorem Jn.dj {h1 h2 h:Hp}(j:Jn h1 h2 h):Dj h1 h2:=fun p=>by
 rcases j p with ⟨a,b⟩ | ⟨a,b⟩
 ·exact .inl a
 ·exact .inr a
theorem zlC_ {h1 h2:Hp}(d:Dj h1 h2):Jn h1 h2 (un h1 h2):=fun p=>by
 unfold un
 rcases d p with a | a
 ·rw [a]; exact .inl ⟨rfl,rfl⟩
 ·refine .inr ⟨a,?_⟩
  cases h1 p with
  | none=>exact a
  | some o=>rfl
theorem Hold.at:∀ {L:List Sl}{σ:St}{F h:Hp}(i:Nat) {s:Sl},Hold L σ F h→L[i]?=some s →
  ∃ o h1 h2,σ[i]?=some o∧Jn h1 h2 h∧s.P o F h1∧∀ s' o' h1' h',Jn h1' h2 h'→s'.P o' F h1'→Hold (L.set i s') (σ.set i o') F h'
 | [],_,_,_,_,_,_,e=>by cases e
 | s::L,[],_,_,_,_,q,_=>q.elim
 | s::L,o::σ,F,h,0,t,⟨h1,h2,j,p,r⟩,e=>by
  cases e
  exact ⟨o,h1,h2,rfl,j,p,fun s' o' h1' h' j' p'=>⟨h1',h2,j',p',r⟩⟩
 | s::L,o::σ,F,h,i+1,t,⟨h1,h2,j,p,r⟩,e=>by
  obtain ⟨o1,k1,k2,e1,j1,p1,f⟩:=Hold.at i r (by simpa using e)
  have d1:Dj h1 k1:=fun p=>by
   rcases j.dj p with a | a
   ·exact .inl a
   ·exact .inr (j1.l.free a)
  have d2:Dj h1 k2:=fun p=>by
   rcases j.dj p with a | a
   ·exact .inl a
   ·exact .inr (j1.r.free a)
  refine ⟨o1,k1,un h1 k2,by simpa using e1,fun p=>?_,p1,fun s' o' k1' h' j' p'=>?_⟩
  ·rcases j p with ⟨a,b⟩ | ⟨a,b⟩
   ·rcases j1 p with ⟨c,d⟩ | ⟨c,d⟩
    ·refine .inl ⟨c,?_⟩; unfold un; rw [a,b,d]
    ·refine .inr ⟨?_,by rw [b,d]⟩; unfold un; rw [a,c]
   ·refine .inl ⟨j1.l.free a,?_⟩
    have:k2 p=none:=j1.r.free a
    unfold un; rw [b]
    cases h1 p with
    | none=>rw [this]
    | some u=>rfl
  ·have dd:Dj k1' k2:=fun p=>by
    rcases j' p with ⟨a,b⟩ | ⟨a,b⟩
    ·exact .inl a
    ·right; unfold un at a
     cases z:h1 p with
     | none=>rw [z] at a; exact a
     | some u=>rw [z] at a; cases a
   refine ⟨h1,un k1' k2,fun p=>?_,p,f s' o' k1' _ (zlC_ dd) p'⟩
   rcases j' p with ⟨a,b⟩ | ⟨a,b⟩
   ·unfold un at b ⊢
    cases z:h1 p with
    | none=>rw [z] at b; exact .inl ⟨rfl,by rw [b,a]⟩
    | some u =>
     rw [z] at b
     refine .inr ⟨?_,b⟩
     rw [a]
     rcases d2 p with y | y
     ·rw [y] at z; cases z
     ·exact y
   ·unfold un at a
    cases z:h1 p with
    | some u=>rw [z] at a; cases a
    | none =>
     rw [z] at a
     refine .inl ⟨rfl,?_⟩
     unfold un; rw [b]
     cases k1' p with
     | none=>exact a.symm
     | some u=>rfl
theorem Hold.froz {L:List Sl}{σ:St}{F h:Hp}(d:Dj F h) (q:Hold L σ F h):HoldF L σ (un F h):=by
 intro i s e
 obtain ⟨o,h1,h2,e1,j,p,_⟩:=q.at i e
 rw [e1]
 have d1:Dj F h1:=fun p=>by
  rcases d p with a | a
  ·exact .inl a
  ·exact .inr (j.l.free a)
 cases s with
 | dead=>trivial
 | fz T a=>obtain ⟨v,e2,r⟩:=p; exact ⟨v,e2,T.mono zcE_ r⟩
 | ow O a =>
  obtain ⟨v,e2,r⟩:=p
  refine ⟨v,e2,O.fr.mono (fun p u z=>?_) (O.frz d1 r)⟩
  unfold un at z ⊢
  cases y:F p with
  | some w=>rw [y] at z; exact z
  | none=>rw [y] at z; exact j.l _ _ z
theorem Hold.coldF {L:List Sl}{σ:St}{F h:Hp}(q:Hold L σ F h):HoldF (L.map Sl.cold) σ F:=by
 intro i s e
 rw [List.getElem?_map] at e
 cases e1:L[i]? with
 | none=>rw [e1] at e; cases e
 | some t =>
  rw [e1] at e
  cases e
  obtain ⟨o,h1,h2,e2,j,p,_⟩:=q.at i e1
  rw [e2]
  cases t with
  | dead=>trivial
  | fz T a=>obtain ⟨v,e2,r⟩:=p; exact ⟨v,e2,r⟩
  | ow O a=>trivial
end L2
namespace L2
open PySem PySem.Spec PyProof.Rows
noncomputable def After {α:Type}(K:Fgg) (r:Mo α) (E:XK) (F H:Hp) (k:α→Hp→Hp→Prop):Prop:=match r with
 | .ok a=>∀ F' H',Ext F H F' H'→k a F' H'
 | .ex c=>∀ F' H',Ext F H F' H'→E (.ref (gA K c)) none H'
 | .no=>False
section
variable {K:Fgg}{E:XK}{α β γ ρ:Type}{F H:Hp}
theorem After.bind {r:Mo α}{f:α→Mo β}{k:β→Hp→Hp→Prop}(h:After K (r.bind f) E F H k):After K r E F H fun a F1 H1=>After K (f a) E F1 H1 k:=by
 cases r with
 | ok a =>
  intro F1 H1 x
  have h':After K (f a) E F H k:=h
  cases e:f a with
  | ok b=>rw [e] at h'; exact fun F2 H2 y=>h' F2 H2 (x.trans y)
  | ex c=>rw [e] at h'; exact fun F2 H2 y=>h' F2 H2 (x.trans y)
  | no=>rw [e] at h'; exact h'
 | ex c=>exact h
 | no=>exact h
theorem After.imp {r:Mo α}{k k':α→Hp→Hp→Prop}(h:After K r E F H k) (g:∀ a F' H',Ext F H F' H'→k a F' H'→k' a F' H'):After K r E F H k':=by
 cases r with
 | ok a=>exact fun F' H' x=>g a F' H' x (h F' H' x)
 | ex c=>exact h
 | no=>exact h
theorem After.ok {a:α}{k:α→Hp→Hp→Prop}(hs:Same F H) (h:After K (.ok a) E F H k):k a F H:=h F H (.refl hs)
theorem After.noex {r:Mo α}{k:α→Hp→Hp→Prop}(h:After K r.noex E F H k):After K r E0 F H k:=by
 cases r with
 | ok a=>exact h
 | ex c=>exact h.elim
 | no=>exact h
theorem After.lim {n:Nat}{r:Mo α}{k:α→Hp→Hp→Prop}(h:After K (Mo.lim n r) E F H k):n≤sizeLine∧After K r E F H k:=by
 unfold Mo.lim at h
 split at h
 ·exact ⟨by assumption,h⟩
 ·exact h.elim
theorem After.grd {p:Prop} [Decidable p] {r:Mo α}{k:α→Hp→Hp→Prop}(h:After K (Mo.grd p r) E F H k):p∧After K r E F H k:=by
 unfold Mo.grd at h
 split at h
 ·exact ⟨by assumption,h⟩
 ·exact h.elim
theorem After.opt {x:Option α}{k:α→Hp→Hp→Prop}(h:After K (Mo.opt x) E F H k):∃ a,x=some a∧After K (.ok a) E F H k:=by
 cases x with
 | none=>exact h.elim
 | some a=>exact ⟨a,rfl,h⟩
noncomputable def EvF (K:Fgg) (e:TE) (E:XK) (L:List Sl) (r:Mo α) (T:Ty α):Prop :=
 ∀ σ F H (Q:VK),HoldF L σ F→Same F H→After K r E F H (fun a F' H'=>∀ v,T.R a v F'→Q v H')→e σ H Q
noncomputable def OwnK (O:Own α) (H:Hp) (Q:VK) (a:α) (F' H':Hp):Prop:=∀ v h,(∀ p,h p≠none→H p=none)→Dj F' h→Same h H'→O.O a v F' h→Q v H'
noncomputable def EvO (K:Fgg) (e:TE) (E:XK) (L:List Sl) (r:Mo α) (O:Own α):Prop :=
 ∀ σ F H (Q:VK),HoldF L σ F→Same F H→After K r E F H (OwnK O H Q)→e σ H Q
noncomputable def EvT (K:Fgg) (t:TT) (E:XK) (L:List Sl) (r:Mo Bool):Prop :=
 ∀ σ F H (Q:Bool→Hp→Prop),HoldF L σ F→Same F H→After K r E F H (fun b _ H'=>Q b H')→t σ H Q
noncomputable def EvA (K:Fgg) (t:TA) (E:XK) (L:List Sl) (r:Mo γ) (C:Cs γ):Prop :=
 ∀ σ F H (Q:List V→Hp→Prop),HoldF L σ F→Same F H→After K r E F H (fun c F' H'=>∀ vs,C.R c vs F'→Q vs H')→t σ H Q
variable {L:List Sl}{e e1 e2:TE}{T:Ty α}{r:Mo α}
theorem EvO.fr {O:Own α}(h:EvO K e E L r O):EvF K e E L r O.fr:=by
 intro σ F H Q hL hs q
 refine h σ F H Q hL hs ?_
 cases r with
 | ok a =>
  intro F' H' x v h' fresh d s o
  refine q (un F' h') H' ⟨x.1.trans zcE_,fun p o e=>?_,x.2.2.1,fun p a b=>?_⟩ v (O.frz d o)
  ·unfold un at e
   cases z:F' p with
   | some w=>rw [z] at e; cases e; exact x.2.1 _ _ z
   | none=>rw [z] at e; exact s _ _ e
  ·unfold un at b
   cases z:F' p with
   | some w=>exact x.2.2.2 p a (by rw [z]; exact Option.some_ne_none _)
   | none=>rw [z] at b; exact fresh p b
 | ex c=>exact q
 | no=>exact q
theorem EvF.ow (h:EvF K e E L r T):EvO K e E L r (owF T):=by
 intro σ F H Q hL hs q
 refine h σ F H Q hL hs (q.imp fun a F' H' x k v hv=>?_)
 exact k v (fun _=>none) (fun p z=>absurd rfl z) (fun p=>.inr rfl) (fun p o z=>by cases z) ⟨fun _=>rfl,hv⟩
theorem ev_c {v:V}{a:α}(h:∀ F,T.R a v F):EvF K (tC v) E L (.ok a) T:=fun σ F H Q hL hs q=>q.ok hs v (h F)
theorem zn_ (i:Int):EvF K (tC (.int i)) E L (.ok i) tyInt:=ev_c fun _=>rfl
theorem zbm_ (l:List Nat):EvF K (tC (tx l)) E L (.ok l) tyStr:=ev_c fun _=>rfl
theorem zj3_ (b:Bool):EvF K (tC (.bl b)) E L (.ok b) tyBl:=ev_c fun _=>rfl
theorem zez_:EvF K (tC .non) E L (.ok ()) tyNon:=ev_c fun _=>rfl
theorem zdc_ {β:Type}{T:Ty β}:EvF K (tC .non) E L (.ok (none:Option β)) (tyOpt T):=ev_c fun _=>rfl
theorem zcd_ (hn:∀ a v F,T.R a v F→v≠.non) (h:EvF K e E L r T):EvF K e E L (r.bind fun a=>.ok (some a)) (tyOpt T):=by
 intro σ F H Q hL hs q
 exact h σ F H Q hL hs (q.bind.imp fun a F1 H1 x k v hv=>k.ok x.2.1 v ⟨hv,hn _ _ _ hv⟩)
theorem zb_ (i:Nat) {a:α}(h:L[i]?=some (.fz T a)):EvF K (mVar i) E L (.ok a) T:=by
 intro σ F H Q hL hs q
 obtain ⟨v,e,r⟩:=hL i _ h
 unfold mVar
 cases z:σ[i]? with
 | none=>rw [z] at e; cases e
 | some o =>
  rw [z] at e
  cases (show o=some v from e)
  exact q.ok hs v r
theorem ziT_ (i:Nat) {O:Own α}{a:α}(h:L[i]?=some (.ow O a)):EvF K (mVar i) E L (.ok a) O.fr:=by
 intro σ F H Q hL hs q
 obtain ⟨v,e,r⟩:=hL i _ h
 unfold mVar
 cases z:σ[i]? with
 | none=>rw [z] at e; cases e
 | some o =>
  rw [z] at e
  cases (show o=some v from e)
  exact q.ok hs v r
noncomputable def Op2 (K:Fgg) (m:R2) (E:XK) (T1:Ty α) (T2:Ty β) (g:α→β→Mo γ) (T:Ty γ):Prop :=
 ∀ a b x y F H (Q:VK),Same F H→T1.R a x F→T2.R b y F→After K (g a b) E F H (fun c F' H'=>∀ v,T.R c v F'→Q v H')→m x y H Q
noncomputable def Op2O (K:Fgg) (m:R2) (E:XK) (T1:Ty α) (T2:Ty β) (g:α→β→Mo γ) (O:Own γ):Prop :=
 ∀ a b x y F H (Q:VK),Same F H→T1.R a x F→T2.R b y F→After K (g a b) E F H (OwnK O H Q)→m x y H Q
theorem OwnK.back {O:Own α}{H H1:Hp}{Q:VK}{a:α}{F' H':Hp}(g:Same H H1) (h:OwnK O H Q a F' H'):OwnK O H1 Q a F' H' :=
 fun v k fresh d s o=>h v k (fun p z=>g.free (fresh p z)) d s o
theorem zJ_ {m:R2}{T1:Ty α}{T2:Ty β}{T:Ty γ}{g:α→β→Mo γ}{r1:Mo α}{r2:Mo β}(hop:Op2 K m E T1 T2 g T) (h1:EvF K e1 E L r1 T1) (h2:EvF K e2 E L r2 T2) :
  EvF K (tOp m e1 e2) E L (r1.bind fun a=>r2.bind fun b=>g a b) T:=by
 intro σ F H Q hL hs q
 refine h1 σ F H _ hL hs (q.bind.imp fun a F1 H1 x1 k1 v1 hv1=>?_)
 refine h2 σ F1 H1 _ (hL.mono x1.1) x1.2.1 (k1.bind.imp fun b F2 H2 x2 k2 v2 hv2=>?_)
 exact hop a b v1 v2 F2 H2 Q x2.2.1 (T1.mono x2.1 hv1) hv2 k2
theorem zbI_ {m:R2}{T1:Ty α}{T2:Ty β}{O:Own γ}{g:α→β→Mo γ}{r1:Mo α}{r2:Mo β}(hop:Op2O K m E T1 T2 g O) (h1:EvF K e1 E L r1 T1) (h2:EvF K e2 E L r2 T2) :
  EvO K (tOp m e1 e2) E L (r1.bind fun a=>r2.bind fun b=>g a b) O:=by
 intro σ F H Q hL hs q
 refine h1 σ F H _ hL hs (q.bind.imp fun a F1 H1 x1 k1 v1 hv1=>?_)
 refine h2 σ F1 H1 _ (hL.mono x1.1) x1.2.1 (k1.bind.imp fun b F2 H2 x2 k2 v2 hv2=>?_)
 exact hop a b v1 v2 F2 H2 Q x2.2.1 (T1.mono x2.1 hv1) hv2 (k2.imp fun c F3 H3 x3 k3=>k3.back (x1.2.2.1.trans x2.2.2.1))
theorem zlW_ {g:Int→Int→V}{f:Int→Int→α}(h:∀ i j F,T.R (f i j) (g i j) F):Op2 K (mI0 g) E tyInt tyInt (fun i j=>.ok (f i j)) T:=by
 intro a b x y F H Q hs hx hy q
 cases hx; cases hy
 exact q.ok hs _ (h a b F)
theorem op_i {C:Int→Int→Prop} [∀ i j,Decidable (C i j)] {g:Int→Int→V}{f:Int→Int→α}(h:∀ i j F,T.R (f i j) (g i j) F):Op2 K (mI C g) E tyInt tyInt (fun i j=>.grd (C i j) (.ok (f i j))) T:=by
 intro a b x y F H Q hs hx hy q
 cases hx; cases hy
 obtain ⟨c,q⟩:=q.grd
 exact ⟨c,q.ok hs _ (h a b F)⟩
instance (i j:Int):Decidable (CMul i j):=inferInstanceAs (Decidable (_∨_))
instance (i j:Int):Decidable (CDiv i j):=inferInstanceAs (Decidable (_∧_))
instance (i j:Int):Decidable (CPow i j):=inferInstanceAs (Decidable (_∧_∧_))
theorem zaW_:Op2 K mAdd E tyInt tyInt (fun i j=>.ok (i+j)) tyInt:=by
 intro a b x y F H Q hs hx hy q
 cases hx; cases hy
 exact q.ok hs _ rfl
theorem zfS_:Op2 K mSub E tyInt tyInt (fun i j=>.ok (i-j)) tyInt:=zlW_ fun _ _ _=>rfl
theorem zbG_:Op2 K mMod E tyInt tyInt (fun i j=>.grd (0<j) (.ok (i % j))) tyInt:=op_i (C:=fun _ j=>0<j) fun _ _ _=>rfl
theorem zkt_:Op2 K mGt E tyInt tyInt (fun i j=>.ok (decide (j<i))) tyBl:=zlW_ fun _ _ _=>rfl
theorem zlO_:Op2 K mGe E tyInt tyInt (fun i j=>.ok (decide (j≤i))) tyBl:=zlW_ fun _ _ _=>rfl
theorem ziO_:Op2 K mAdd E tyStr tyStr (fun i j=>.lim (i.length+j.length) (.ok (i++j))) tyStr:=by
 intro a b x y F H Q hs hx hy q
 cases hx; cases hy
 obtain ⟨c,q⟩:=q.lim
 exact ⟨c,q.ok hs _ rfl⟩
theorem Prs.append {xs ys:List α}{vs us:List V}(a:Prs T H xs vs) (b:Prs T H ys us):Prs T H (xs++ys) (vs++us):=by
 induction a with
 | nil=>exact b
 | cons r t ih=>exact .cons r ih
theorem Prs.len {xs:List α}{vs:List V}(a:Prs T H xs vs):xs.length=vs.length:=Paired.length a
theorem Prs.get {xs:List α}{vs:List V}(a:Prs T H xs vs) (i:Nat):(xs[i]?=none∧vs[i]?=none)∨∃ x v,xs[i]?=some x∧vs[i]?=some v∧T.R x v H:=by
 induction a generalizing i with
 | nil=>exact .inl ⟨rfl,rfl⟩
 | cons r t ih =>
  cases i with
  | zero=>exact .inr ⟨_,_,rfl,rfl,r⟩
  | succ i=>simpa using ih i
theorem Prs.take {xs:List α}{vs:List V}(a:Prs T H xs vs) (n:Nat):Prs T H (xs.take n) (vs.take n):=by
 induction a generalizing n with
 | nil=>rw [List.take_nil,List.take_nil]; exact .nil
 | cons r t ih =>
  cases n with
  | zero=>exact .nil
  | succ n=>exact .cons r (ih n)
theorem Prs.drop {xs:List α}{vs:List V}(a:Prs T H xs vs) (n:Nat):Prs T H (xs.drop n) (vs.drop n):=by
 induction a generalizing n with
 | nil=>rw [List.drop_nil,List.drop_nil]; exact .nil
 | cons r t ih =>
  cases n with
  | zero=>exact .cons r t
  | succ n=>exact ih n
theorem Prs.rev {xs:List α}{vs:List V}(a:Prs T H xs vs):Prs T H xs.reverse vs.reverse:=by
 induction a with
 | nil=>exact .nil
 | cons r t ih=>rw [List.reverse_cons,List.reverse_cons]; exact Prs.append ih (.cons r .nil)
theorem zg1_ {vs:List V}{xs:List α}{p:Addr}{F' H':Hp}{Q:VK}(hp:H p=none) (h2:H' p=some (.lst vs)) (hf:F' p=none) (hr:Prs T F' xs vs) (q:OwnK (owL T) H Q xs F' H'):Q (.ref p) H':=by
 refine q (.ref p) (one p (.lst vs)) (fun b z=>?_) (fun b=>?_) (fun b o z=>?_) ⟨p,vs,rfl,rfl,hr⟩
 ·unfold one at z; split at z
  ·rename_i e; rw [e]; exact hp
  ·exact absurd rfl z
 ·unfold one; split
  ·rename_i e; rw [e]; exact .inl hf
  ·exact .inr rfl
 ·unfold one at z; split at z
  ·rename_i e; rw [e]; cases z; exact h2
  ·cases z
theorem zcG_ {vs:List V}{xs:List α}{p:Addr}{Q:VK}(hs:Same F H) (hp:H p=none) (hr:Prs T F xs vs) (q:After K (.ok xs) E F H (OwnK (owL T) H Q)):Q (.ref p) (upd H p (.lst vs)) :=
 zg1_ hp zau_ (hs.free hp) hr (q F _ (.heap hs (zb4_ hp _)))
theorem zaJ_:Op2O K mAdd E (tyL T) (tyL T) (fun i j=>.lim (i.length+j.length) (.ok (i++j))) (owL T):=by
 rintro a b x y F H Q hs ⟨p,vs,rfl,h1,r1⟩ ⟨p2,us,rfl,h2,r2⟩ q
 obtain ⟨c,q⟩:=q.lim
 exact ⟨vs,us,hs _ _ h1,hs _ _ h2,by rw [← r1.len,← r2.len]; exact c,fun p hp=>zcG_ hs hp (r1.append r2) q⟩
theorem ze_ (h:EvF K e E L r T):EvA K (tCons e tNil) E L r (csLast T):=by
 intro σ F H Q hL hs q
 exact h σ F H _ hL hs (q.imp fun a F1 H1 x k v hv=>k [v] ⟨v,rfl,hv⟩)
theorem zk_ {ta:TA}{r2:Mo γ}{C:Cs γ}(h:EvF K e E L r T) (h2:EvA K ta E L r2 C):EvA K (tCons e ta) E L (r.bind fun a=>r2.bind fun c=>.ok (a,c)) (csCons T C):=by
 intro σ F H Q hL hs q
 refine h σ F H _ hL hs (q.bind.imp fun a F1 H1 x1 k1 v1 hv1=>?_)
 refine h2 σ F1 H1 _ (hL.mono x1.1) x1.2.1 (k1.bind.imp fun c F2 H2 x2 k2 vs hvs=>?_)
 exact k2.ok x2.2.1 (v1::vs) ⟨v1,vs,rfl,T.mono x2.1 hv1,hvs⟩
noncomputable def Ct (K:Fgg) (C:Cs γ) (f:γ→Mo ρ) (O:Own ρ):Sp:=fun vs H Q E=>∃ F c,Same F H∧C.R c vs F∧After K (f c) E F H (OwnK O H Q)
theorem zb1_ {C:Cs γ}{f:γ→Mo ρ}{O:Own ρ}{ta:TA}{r:Mo γ}(h:EvA K ta E L r C):EvO K (tCall (Ct K C f O) [] E0 ta) E L (r.bind fun c=>(f c).noex) O:=by
 intro σ F H Q hL hs q
 refine h σ F H _ hL hs (q.bind.imp fun c F1 H1 x1 k1 vs hvs=>?_)
 rw [List.append_nil]
 exact ⟨F1,c,x1.2.1,hvs,k1.noex.imp fun r F2 H2 x2 k2=>k2.back x1.2.2.1⟩
noncomputable def Bl (K:Fgg) (m:List V→Hp→VK→Prop) (E:XK) (C:Cs γ) (g:γ→Mo α) (T:Ty α):Prop :=
 ∀ c vs F H (Q:VK),Same F H→C.R c vs F→After K (g c) E F H (fun c F' H'=>∀ v,T.R c v F'→Q v H')→m vs H Q
noncomputable def BlO (K:Fgg) (m:List V→Hp→VK→Prop) (E:XK) (C:Cs γ) (g:γ→Mo α) (O:Own α):Prop :=
 ∀ c vs F H (Q:VK),Same F H→C.R c vs F→After K (g c) E F H (OwnK O H Q)→m vs H Q
theorem zff_ {m:List V→Hp→VK→Prop}{C:Cs γ}{g:γ→Mo α}{ta:TA}{r:Mo γ}(hb:Bl K m E C g T) (h:EvA K ta E L r C):EvF K (tCB m ta) E L (r.bind g) T:=by
 intro σ F H Q hL hs q
 exact h σ F H _ hL hs (q.bind.imp fun c F1 H1 x1 k1 vs hvs=>hb c vs F1 H1 Q x1.2.1 hvs k1)
theorem zdY_ {m:List V→Hp→VK→Prop}{C:Cs γ}{g:γ→Mo α}{O:Own α}{ta:TA}{r:Mo γ}(hb:BlO K m E C g O) (h:EvA K ta E L r C):EvO K (tCB m ta) E L (r.bind g) O:=by
 intro σ F H Q hL hs q
 exact h σ F H _ hL hs (q.bind.imp fun c F1 H1 x1 k1 vs hvs=>hb c vs F1 H1 Q x1.2.1 hvs (k1.imp fun a F2 H2 x2 k2=>k2.back x1.2.2.1))
theorem zkv_:Bl K (mLen K) E (csLast tyStr) (fun l=>.lim l.length (.ok (l.length:Int))) tyInt:=by
 rintro c vs F H Q hs ⟨v,rfl,rfl⟩ q
 obtain ⟨z,q⟩:=q.lim
 exact ⟨z,q.ok hs _ rfl⟩
theorem zcg_:Bl K (mLen K) E (csLast (tyL T)) (fun l=>.ok (l.length:Int)) tyInt:=by
 rintro c vs F H Q hs ⟨v,rfl,p,us,rfl,h,r⟩ q
 exact ⟨us,.inl (.of (hs _ _ h)),q.ok hs _ (by rw [r.len])⟩
theorem zjv_:Bl K (mLen K) E (csLast (tySc K)) (fun l=>.ok (l.length:Int)) tyInt:=by
 rintro c vs F H Q hs ⟨v,rfl,p,rfl,h⟩ q
 exact ⟨_,.inl (hs.seq h),q.ok hs _ (by rw [List.length_map])⟩
theorem zmc_:Bl K (mTwo min) E (csCons tyInt (csLast tyInt)) (fun c=>.ok (min c.1 c.2)) tyInt:=by
 rintro c vs F H Q hs ⟨v,us,rfl,rfl,w,rfl,rfl⟩ q
 exact q.ok hs _ rfl
theorem zeC_:BlO K (mList K) E (csLast (tyL T)) (fun l=>.ok l) (owL T):=by
 rintro c vs F H Q hs ⟨v,rfl,p,us,rfl,h,r⟩ q
 exact .inl ⟨us,.inl (.of (hs _ _ h)),fun l hl=>zcG_ hs hl r q⟩
theorem zi0_ {xs:List Int}:Prs tyInt H xs (xs.map V.int):=by
 induction xs with
 | nil=>exact .nil
 | cons x xs ih=>exact .cons rfl ih
theorem zhF_:Op2 K (mIx K) E tyStr tyInt (fun l i=>.lim l.length (.opt ((atI l i).map fun c=>[c]))) tyStr:=by
 rintro a b x y F H Q hs rfl rfl q
 obtain ⟨z,q⟩:=q.lim
 obtain ⟨l,e,q⟩:=q.opt
 refine ⟨z,?_⟩
 show (match atI a b with | some c=>Q (tx [c]) H | none=>False)
 cases e1:atI a b with
 | none=>rw [e1] at e; cases e
 | some c=>rw [e1] at e; cases e; exact q.ok hs _ rfl
theorem zi1_ {xs:List α}{vs:List V}(r:Prs T H xs vs) {i:Int}{x:α}(e:atI xs i=some x):∃ v,atI vs i=some v∧T.R x v H:=by
 unfold atI at e ⊢
 rw [← r.len]
 cases e1:ixN xs.length i with
 | none=>rw [e1] at e; cases e
 | some j =>
  rw [e1] at e
  rcases r.get j with ⟨a,b⟩ | ⟨y,v,a,b,c⟩
  ·have:xs[j]?=some x:=e
   rw [a] at this; cases this
  ·have:xs[j]?=some x:=e
   rw [a] at this; cases this
   exact ⟨v,b,c⟩
theorem zdA_:Op2 K (mIx K) E (tyL T) tyInt (fun l i=>.opt (atI l i)) T:=by
 rintro a b x y F H Q hs ⟨p,vs,rfl,h,r⟩ rfl q
 obtain ⟨l,e,q⟩:=q.opt
 refine ⟨vs,.inl (.of (hs _ _ h)),?_⟩
 obtain ⟨v,e2,rv⟩:=zi1_ r e
 rw [e2]
 exact q.ok hs v rv
theorem zkb_:Op2 K (mIx K) E (tySc K) tyInt (fun l i=>.opt (atI l i)) tyInt:=by
 rintro a b x y F H Q hs ⟨p,rfl,h⟩ rfl q
 obtain ⟨l,e,q⟩:=q.opt
 refine ⟨_,.inl (hs.seq h),?_⟩
 obtain ⟨v,e2,rv⟩:=zi1_ (H:=F) zi0_ e
 rw [e2]
 exact q.ok hs v rv
noncomputable def CsAt (C:Cs γ) (i:Nat) (T:Ty α) (pr:γ→α):Prop:=∀ {c vs H},C.R c vs H→∃ v,vs[i]?=some v∧T.R (pr c) v H
theorem zht_:CsAt (csLast T) 0 T id:=fun ⟨v,e,h⟩=>⟨v,by rw [e]; rfl,h⟩
theorem at_0 {C:Cs γ}:CsAt (csCons T C) 0 T Prod.fst:=fun ⟨v,us,e,h,q⟩=>⟨v,by rw [e]; rfl,h⟩
theorem at_s {C:Cs γ}{i:Nat}{pr:γ→α}{T':Ty β}(h:CsAt C i T pr):CsAt (csCons T' C) (i+1) T (fun c=>pr c.2):=fun ⟨v,us,e,_,q⟩=>by
 obtain ⟨w,e2,r⟩:=h q
 exact ⟨w,by rw [e]; exact e2,r⟩
theorem zfg_ {C:Cs γ}{i:Nat}{pr:γ→α}{r:Mo γ}(ha:CsAt C i T pr) (h:EvF K e E L r (tyTup C)):EvF K (tOp (mIx K) e (tC (.int i))) E L (r.bind fun c=>.ok (pr c)) T:=by
 intro σ F H Q hL hs q
 refine h σ F H _ hL hs (q.bind.imp fun c F1 H1 x1 k1 v1 ⟨p,us,ev,hp,hc⟩=>?_)
 subst ev
 obtain ⟨w,e2,rw'⟩:=ha hc
 refine ⟨us,.inr (.of (x1.2.1 _ _ hp)),?_⟩
 have e3:atI us (i:Int)=some w:=by
  unfold atI
  rw [zkO_ (by lia) (by have:=(List.getElem?_eq_some_iff.mp e2).1; lia)]
  simpa using e2
 rw [e3]
 exact k1.ok x1.2.1 w rw'
end
end L2
namespace L2
open PySem PySem.Spec PyProof.Rows
section
variable {K:Fgg}{E:XK}{α β γ ρ:Type}{F H:Hp}{L:List Sl}{e e1 e2:TE}{T:Ty α}{r:Mo α}
variable {t t1 t2:TT}{b b1 b2:Mo Bool}
theorem zE_ (h:EvF K e E L b tyBl):EvT K (mTest e) E L b:=by
 intro σ F H Q hL hs q
 refine h σ F H _ hL hs (q.imp fun a F1 H1 x k v hv=>?_)
 cases hv
 exact k
theorem zg6_ (h:EvT K t E L b):EvT K (tNot t) E L (b.bind fun c=>.ok (!c)):=by
 intro σ F H Q hL hs q
 exact h σ F H _ hL hs (q.bind.imp fun a F1 H1 x k=>k.ok x.2.1)
theorem zd3_ (h1:EvT K t1 E L b1) (h2:EvT K t2 E L b2):EvT K (mAnd t1 t2) E L (b1.bind fun c=>if c then b2 else .ok false):=by
 intro σ F H Q hL hs q
 refine h1 σ F H _ hL hs (q.bind.imp fun a F1 H1 x k=>⟨fun c=>?_,fun c=>?_⟩)
 ·rw [if_pos c] at k; exact h2 σ F1 H1 _ (hL.mono x.1) x.2.1 k
 ·rw [if_neg (by rw [c]; decide)] at k; exact k.ok x.2.1
theorem zlF_ (h1:EvT K t1 E L b1) (h2:EvT K t2 E L b2):EvT K (mOr t1 t2) E L (b1.bind fun c=>if c then .ok true else b2):=by
 intro σ F H Q hL hs q
 refine h1 σ F H _ hL hs (q.bind.imp fun a F1 H1 x k=>⟨fun c=>?_,fun c=>?_⟩)
 ·rw [if_pos c] at k; exact k.ok x.2.1
 ·rw [if_neg (by rw [c]; decide)] at k; exact h2 σ F1 H1 _ (hL.mono x.1) x.2.1 k
theorem zmg_ (h1:EvF K e1 E L b1 tyBl) (h2:EvF K e2 E L b2 tyBl):EvF K (mAndV e1 e2) E L (b1.bind fun c=>if c then b2 else .ok false) tyBl:=by
 intro σ F H Q hL hs q
 refine h1 σ F H _ hL hs (q.bind.imp fun a F1 H1 x k v hv=>?_)
 cases hv
 refine ⟨fun c=>?_,fun c=>?_⟩
 ·rw [if_pos c] at k; exact h2 σ F1 H1 _ (hL.mono x.1) x.2.1 k
 ·rw [if_neg (by rw [c]; decide)] at k; exact k.ok x.2.1 _ rfl
theorem ev_or (h1:EvF K e1 E L b1 tyBl) (h2:EvF K e2 E L b2 tyBl):EvF K (mOrV e1 e2) E L (b1.bind fun c=>if c then .ok true else b2) tyBl:=by
 intro σ F H Q hL hs q
 refine h1 σ F H _ hL hs (q.bind.imp fun a F1 H1 x k v hv=>?_)
 cases hv
 refine ⟨fun c=>?_,fun c=>?_⟩
 ·rw [if_pos c] at k; exact k.ok x.2.1 _ rfl
 ·rw [if_neg (by rw [c]; decide)] at k; exact h2 σ F1 H1 _ (hL.mono x.1) x.2.1 k
theorem zl0_ {r:Mo Int}(h1:EvF K e1 E L r tyInt):EvF K (mNeg e1) E L (r.bind fun c=>.ok (-c)) tyInt:=by
 intro σ F H Q hL hs q
 refine h1 σ F H _ hL hs (q.bind.imp fun a F1 H1 x k v hv=>?_)
 cases hv
 exact k.ok x.2.1 _ rfl
theorem ev_if {r1 r2:Mo α}(ht:EvT K t E L b) (h1:EvF K e1 E L r1 T) (h2:EvF K e2 E L r2 T):EvF K (mIf t e1 e2) E L (b.bind fun c=>if c then r1 else r2) T:=by
 intro σ F H Q hL hs q
 refine ht σ F H _ hL hs (q.bind.imp fun a F1 H1 x k=>⟨fun c=>?_,fun c=>?_⟩)
 ·rw [if_pos c] at k; exact h1 σ F1 H1 _ (hL.mono x.1) x.2.1 k
 ·rw [if_neg (by rw [c]; decide)] at k; exact h2 σ F1 H1 _ (hL.mono x.1) x.2.1 k
theorem After.more {k:α→Hp→Hp→Prop}(h:After K r E F H k):After K r E F H fun a F1 H1=>∀ F2 H2,Ext F1 H1 F2 H2→k a F2 H2:=by
 cases r with
 | ok a=>exact fun F1 H1 x F2 H2 y=>h F2 H2 (x.trans y)
 | ex c=>exact h
 | no=>exact h
noncomputable def CsN (C:Cs γ) (n:Nat):Prop:=∀ {c vs H},C.R c vs H→vs.length=n
theorem zf_:CsN (csLast T) 1:=fun ⟨v,e,_⟩=>by rw [e]; rfl
theorem zg_ {C:Cs γ}{n:Nat}(h:CsN C n):CsN (csCons T C) (n+1):=fun ⟨v,us,e,_,q⟩=>by rw [e,List.length_cons,h q]
theorem zje_ {ta:TA}{C:Cs γ}{r:Mo γ}{n:Nat}(hl:CsN C n) (h:EvA K ta E L r C) (hn:n≤100:=by decide):EvF K (tTup ta) E L r (tyTup C):=by
 intro σ F H Q hL hs q
 refine h σ F H _ hL hs (q.more.imp fun c F1 H1 x1 k1 vs hvs=>⟨zbH_ (by rw [hl hvs]; lia),fun p hp=>?_⟩)
 have x:=Ext.new (o:=.tup vs) x1.2.1 hp
 exact k1 _ _ x _ ⟨p,vs,rfl,zau_,C.mono x.1 hvs⟩
noncomputable def CsL (C:Cs γ) (T:Ty α) (f:γ→List α):Prop:=∀ {c vs H},C.R c vs H→Prs T H (f c) vs
theorem zas_:CsL (csLast T) T fun a=>[a]:=fun ⟨v,e,h⟩=>by rw [e]; exact .cons h .nil
theorem zcw_ {C:Cs γ}{f:γ→List α}(h:CsL C T f):CsL (csCons T C) T fun c=>c.1::f c.2:=fun ⟨v,us,e,q,z⟩=>by rw [e]; exact .cons q (h z)
theorem zb0_ {ta:TA}{C:Cs γ}{r:Mo γ}{n:Nat}{f:γ→List α}(hl:CsN C n) (hf:CsL C T f) (h:EvA K ta E L r C) (hn:n≤100:=by decide):EvO K (tLst ta) E L (r.bind fun c=>.ok (f c)) (owL T):=by
 intro σ F H Q hL hs q
 refine h σ F H _ hL hs (q.bind.imp fun c F1 H1 x1 k1 vs hvs=>⟨zbH_ (by rw [hl hvs]; lia),fun p hp=>?_⟩)
 exact zcG_ x1.2.1 hp (hf hvs) (k1.imp fun a F2 H2 x2 k2=>k2.back x1.2.2.1)
theorem zeu_ (T:Ty α):EvO K (tLst tNil) E L (.ok []) (owL T):=by
 intro σ F H Q hL hs q
 exact ⟨Nat.zero_le _,fun p hp=>zcG_ hs hp (T:=T) .nil q⟩
noncomputable def EvP (K:Fgg) (t:TO) (E:XK) (L:List Sl) (r:Mo (Option Int)):Prop :=
 ∀ σ F H (Q:Option Int→Hp→Prop),HoldF L σ F→Same F H→After K r E F H (fun b _ H'=>Q b H')→t σ H Q
theorem zcL_:EvP K tNoPart E L (.ok none):=fun σ F H Q hL hs q=>q.ok hs
theorem zcm_ {r:Mo Int}(h:EvF K e E L r tyInt):EvP K (mPart e) E L (r.bind fun i=>.ok (some i)):=by
 intro σ F H Q hL hs q
 refine h σ F H _ hL hs (q.bind.imp fun a F1 H1 x k v hv=>?_)
 cases hv
 exact k.ok x.2.1
noncomputable def cutG (xs:List α) (lo hi:Option Int):List α:=(xs.drop (HT.sIx xs.length 0 lo)).take (HT.sIx xs.length xs.length hi-HT.sIx xs.length 0 lo)
theorem ziH_ {xs:List α}{vs:List V}(q:Prs T H xs vs) (lo hi:Option Int):Prs T H (cutG xs lo hi) (cutV vs lo hi):=by
 unfold cutG cutV
 rw [← q.len]
 exact (q.drop _).take _
variable {tl th:TO}{rl rh:Mo (Option Int)}
theorem zij_ {r:Mo (List Nat)}(h:EvF K e E L r tyStr) (hl:EvP K tl E L rl) (hh:EvP K th E L rh):EvF K (tSl (mSl K) e tl th) E L (r.bind fun l=>rl.bind fun a=>rh.bind fun b=>.lim l.length (.ok (cutG l a b))) tyStr:=by
 intro σ F H Q hL hs q
 refine h σ F H _ hL hs (q.bind.imp fun l F1 H1 x1 k1 v hv=>?_)
 refine hl σ F1 H1 _ (hL.mono x1.1) x1.2.1 (k1.bind.imp fun a F2 H2 x2 k2=>?_)
 refine hh σ F2 H2 _ (hL.mono (x1.1.trans x2.1)) x2.2.1 (k2.bind.imp fun b F3 H3 x3 k3=>?_)
 cases hv
 obtain ⟨z,k3⟩:=k3.lim
 exact ⟨z,k3.ok x3.2.1 _ rfl⟩
theorem zbk_ {r:Mo (List α)}(h:EvF K e E L r (tyL T)) (hl:EvP K tl E L rl) (hh:EvP K th E L rh):EvO K (tSl (mSl K) e tl th) E L (r.bind fun l=>rl.bind fun a=>rh.bind fun b=>.ok (cutG l a b)) (owL T):=by
 intro σ F H Q hL hs q
 refine h σ F H _ hL hs (q.bind.imp fun l F1 H1 x1 k1 v hv=>?_)
 refine hl σ F1 H1 _ (hL.mono x1.1) x1.2.1 (k1.bind.imp fun a F2 H2 x2 k2=>?_)
 refine hh σ F2 H2 _ (hL.mono (x1.1.trans x2.1)) x2.2.1 (k2.bind.imp fun b F3 H3 x3 k3=>?_)
 obtain ⟨p,vs,rfl,hp,hr⟩:=hv
 have x:=x2.1.trans x3.1
 exact ⟨vs,.of (x3.2.1 _ _ (x _ _ hp)),fun q hq=>zcG_ x3.2.1 hq (ziH_ (hr.mono x) a b) (k3.imp fun _ _ _ _ z=>z.back ((x1.2.2.1.trans x2.2.2.1).trans x3.2.2.1))⟩
theorem zk9_ {r:Mo (List Int)}(h:EvF K e E L r (tySc K)) (hl:EvP K tl E L rl) (hh:EvP K th E L rh):EvO K (tSl (mSl K) e tl th) E L (r.bind fun l=>rl.bind fun a=>rh.bind fun b=>.ok (cutG l a b)) (owL tyInt):=by
 intro σ F H Q hL hs q
 refine h σ F H _ hL hs (q.bind.imp fun l F1 H1 x1 k1 v hv=>?_)
 refine hl σ F1 H1 _ (hL.mono x1.1) x1.2.1 (k1.bind.imp fun a F2 H2 x2 k2=>?_)
 refine hh σ F2 H2 _ (hL.mono (x1.1.trans x2.1)) x2.2.1 (k2.bind.imp fun b F3 H3 x3 k3=>?_)
 obtain ⟨p,rfl,hp⟩:=hv
 have x:=x2.1.trans x3.1
 exact ⟨_,x3.2.1.seq (x.seq hp),fun q hq=>zcG_ x3.2.1 hq (ziH_ zi0_ a b) (k3.imp fun _ _ _ _ z=>z.back ((x1.2.2.1.trans x2.2.2.1).trans x3.2.2.1))⟩
theorem zms_ {r:Mo (List α)}(h:EvF K e E L r (tyL T)) (hl:EvP K tl E L (.ok (some (-1)))):EvO K (tRev K e tl) E L (r.bind fun l=>.ok l.reverse) (owL T):=by
 intro σ F H Q hL hs q
 refine h σ F H _ hL hs (q.bind.imp fun l F1 H1 x1 k1 v hv=>?_)
 refine hl σ F1 H1 _ (hL.mono x1.1) x1.2.1 (fun F2 H2 x2=>?_)
 obtain ⟨p,vs,rfl,hp,hr⟩:=hv
 refine ⟨rfl,vs,.of (x2.2.1 _ _ (x2.1 _ _ hp)),fun q hq=>?_⟩
 refine zg1_ hq zau_ (x2.2.1.free hq) (hr.mono x2.1).rev (((k1 F2 _ ?_)).back (x1.2.2.1.trans x2.2.2.1))
 exact x2.trans (.heap x2.2.1 (zb4_ hq _))
structure EqT (K:Fgg) (T:Ty α) (n:Nat) (q:α→α→Bool):Prop where
 eq:∀ {a b x y H},T.R a x H→T.R b y H→EqD K H n x y (q a b)
theorem zhd_:EqT K tyInt 0 (fun a b=>decide (a=b)):=⟨by
 rintro a b x y H rfl rfl
 have:eqV (.int a) (.int b)=decide (a=b):=by unfold eqV; exact rfl
 rw [← this]; exact .flat rfl rfl⟩
theorem ziV_:EqT K tyStr 0 (fun a b=>decide (a=b)):=⟨by
 rintro a b x y H rfl rfl
 have:eqV (tx a) (tx b)=decide (a=b):=by
  unfold eqV
  rw [Bool.eq_iff_iff,decide_eq_true_iff]
  constructor
  ·intro h
   have h:=eq_of_beq h
   injection h with h
   have:=congrArg Array.toList h
   simpa using this
  ·rintro rfl; exact beq_self_eq_true _
 rw [← this]; exact .flat rfl rfl⟩
noncomputable def eqL (q:α→α→Bool):List α→List α→Bool
 | [],[]=>true
 | x::xs,y::ys=>q x y && eqL q xs ys
 | _,_=>false
theorem ziI_ {q:α→α→Bool}:∀ {xs ys:List α},xs.length≠ys.length→eqL q xs ys=false
 | [],[],h=>absurd rfl h
 | [],_::_,_=>rfl
 | _::_,[],_=>rfl
 | x::xs,y::ys,h=>by unfold eqL; rw [ziI_ (by simpa using h),Bool.and_false]
theorem ziZ_ {q:α→α→Bool}:∀ {xs ys:List α},xs.length=ys.length→eqL q xs ys=(List.range xs.length).all fun i=>match xs[i]?,ys[i]? with | some x,some y=>q x y | _,_=>true
 | [],[],_=>rfl
 | x::xs,y::ys,h=>by
  unfold eqL
  rw [List.length_cons,List.range_succ_eq_map,List.all_cons,List.all_map,ziZ_ (by simpa using h)]
  rfl
theorem zdb_ {q:α→α→Bool} [DecidableEq α] (hq:∀ a b,q a b=decide (a=b)):∀ xs ys:List α,eqL q xs ys=decide (xs=ys)
 | [],[]=>rfl
 | [],_::_=>rfl
 | _::_,[]=>rfl
 | x::xs,y::ys=>by unfold eqL; rw [hq,zdb_ hq]; simp
theorem zjI_ {n:Nat}{q:α→α→Bool}(h:EqT K T n q):EqT K (tyL T) (n+1) (eqL q):=⟨by
 rintro a b x y H ⟨p,vs,rfl,hp,hr⟩ ⟨p2,us,rfl,hp2,hr2⟩
 by_cases hl:a.length=b.length
 ·rw [ziZ_ hl,hr.len]
  refine .lst _ (.of hp) (.of hp2) (by rw [← hr.len,← hr2.len,hl]) fun i x y hx hy=>?_
  rcases hr.get i with ⟨_,z⟩ | ⟨x1,v1,e1,e2,r1⟩
  ·rw [z] at hx; cases hx
  rcases hr2.get i with ⟨_,z⟩ | ⟨x2,v2,e3,e4,r2⟩
  ·rw [z] at hy; cases hy
  rw [e2] at hx; cases hx
  rw [e4] at hy; cases hy
  simp only [e1,e3]
  exact h.eq r1 r2
 ·rw [ziI_ hl]
  exact .lstN (.of hp) (.of hp2) (by rw [← hr.len,← hr2.len]; exact hl)⟩
structure EqC (K:Fgg) (C:Cs γ) (n m:Nat) (q:γ→γ→Bool):Prop where
 eq:∀ {a b xs ys H},C.R a xs H→C.R b ys H→xs.length=m∧ys.length=m∧∃ e:Nat→Bool,(∀ i x y,xs[i]?=some x→ys[i]?=some y→EqD K H n x y (e i))∧(List.range m).all e=q a b
theorem EqD.le {H:Hp}{n m:Nat}{x y:V}{b:Bool}(h:EqD K H n x y b) (g:n≤m):EqD K H m x y b:=by
 induction g with
 | refl=>exact h
 | step _ ih=>exact .up ih
theorem zjb_ {n:Nat}{q:α→α→Bool}(h:EqT K T n q):EqC K (csLast T) n 1 q:=⟨by
 rintro a b xs ys H ⟨v,rfl,hv⟩ ⟨u,rfl,hu⟩
 refine ⟨rfl,rfl,fun _=>q a b,fun i x y hx hy=>?_,by simp [List.range_succ]⟩
 cases i with
 | zero=>cases hx; cases hy; exact h.eq hv hu
 | succ i=>cases hx⟩
theorem zja_ {C:Cs γ}{n m k:Nat}{q:α→α→Bool}{q':γ→γ→Bool}(h:EqT K T n q) (h':EqC K C k m q'):EqC K (csCons T C) (max n k) (m+1) (fun a b=>q a.1 b.1 && q' a.2 b.2):=⟨by
 rintro a b xs ys H ⟨v,us,rfl,hv,hc⟩ ⟨u,ws,rfl,hu,hc'⟩
 obtain ⟨l1,l2,e,he,ea⟩:=h'.eq hc hc'
 refine ⟨by rw [List.length_cons,l1],by rw [List.length_cons,l2],fun i=>match i with | 0=>q a.1 b.1 | j+1=>e j,fun i x y hx hy=>?_,?_⟩
 ·cases i with
  | zero=>cases hx; cases hy; exact (h.eq hv hu).le (Nat.le_max_left _ _)
  | succ i=>exact (he i x y (by simpa using hx) (by simpa using hy)).le (Nat.le_max_right _ _)
 ·rw [List.range_succ_eq_map,List.all_cons,List.all_map,← ea]; rfl⟩
theorem zkH_ {n:Nat}{q:α→α→Bool}(h:EqT K T n q) (hn:n≤50:=by decide) (hr:∀ {a x H},T.R a x H→∃ p,x=.ref p):Op2 K (mEqK K) E T T (fun a b=>.ok (q a b)) tyBl:=by
 intro a b x y F H Q hs hx hy k
 have hd:=h.eq (T.mono hs hx) (T.mono hs hy)
 obtain ⟨p,rfl⟩:=hr hx
 obtain ⟨p2,rfl⟩:=hr hy
 exact ⟨n,_,hn,hd,k.ok hs _ rfl⟩
theorem zkc_ {n:Nat}{q:α→α→Bool}(h:EqT K T n q) (hn:n≤50:=by decide) (hr:∀ {a x H},T.R a x H→∃ p,x=.ref p):Op2 K (mNeK K) E T T (fun a b=>.ok (!(q a b))) tyBl:=by
 intro a b x y F H Q hs hx hy k
 have hd:=h.eq (T.mono hs hx) (T.mono hs hy)
 obtain ⟨p,rfl⟩:=hr hx
 obtain ⟨p2,rfl⟩:=hr hy
 exact ⟨n,_,hn,hd,k.ok hs _ rfl⟩
theorem ref_l {a:List α}{x:V}{H:Hp}(h:(tyL T).R a x H):∃ p,x=.ref p:=by obtain ⟨p,_,e,_⟩:=h; exact ⟨p,e⟩
theorem zjJ_ {n:Nat}{q:α→α→Bool}(h:EqT K (tyL T) n (eqL q)) (hn:n≤50:=by decide):Op2 K (mEqK K) E (tyL T) (tyL T) (fun a b=>.ok (eqL q a b)) tyBl:=zkH_ h hn ref_l
theorem zl7_ {n:Nat}{q:α→α→Bool}(h:EqT K (tyL T) n (eqL q)) (hn:n≤50:=by decide):Op2 K (mNeK K) E (tyL T) (tyL T) (fun a b=>.ok (!(eqL q a b))) tyBl:=zkc_ h hn ref_l
theorem zb3_:Op2 K (mEqK K) E tyInt tyInt (fun a b=>.ok (decide (a=b))) tyBl:=by
 rintro a b x y F H Q hs rfl rfl k
 exact k.ok hs _ rfl
theorem zmt_:Op2 K (mNeK K) E tyInt tyInt (fun a b=>.ok (!decide (a=b))) tyBl:=by
 rintro a b x y F H Q hs rfl rfl k
 exact k.ok hs _ rfl
theorem zgk_:Op2 K (mEqK K) E tyStr tyStr (fun a b=>.ok (decide (a=b))) tyBl:=by
 rintro a b x y F H Q hs rfl rfl k
 exact k.ok hs _ rfl
theorem zi7_:Op2 K (mNeK K) E tyStr tyStr (fun a b=>.ok (!decide (a=b))) tyBl:=by
 rintro a b x y F H Q hs rfl rfl k
 exact k.ok hs _ rfl
theorem zcD_:Op2 K mIs E (tyOpt T) tyNon (fun a _=>.ok a.isNone) tyBl:=by
 rintro a b x y F H Q hs hx rfl k
 have:decide (x=.non)=a.isNone:=by
  cases a with
  | none=>cases hx; rfl
  | some a=>exact decide_eq_false hx.2
 show (match mIsB x .non with | some b=>Q (.bl b) H | none=>False)
 have e:mIsB x .non=some (decide (x=.non)):=rfl
 rw [e,this]
 exact k.ok hs _ rfl
theorem zk6_:Op2 K (mIn K true) E tyStr tyStr (fun a b=>.ok (!inS a b)) tyBl:=by
 rintro a b x y F H Q hs rfl rfl k
 exact k.ok hs _ rfl
structure Flt (T:Ty α) (q:α→α→Bool):Prop where
 flat:∀ {a x H},T.R a x H→flatV x=true
 eq:∀ {a b x y H},T.R a x H→T.R b y H→eqV x y=q a b
theorem zhu_:Flt tyInt (fun a b=>decide (a=b)):=⟨fun h=>by cases h; rfl,fun h h'=>by cases h; cases h'; unfold eqV; exact rfl⟩
theorem zkY_:Flt tyStr (fun a b=>decide (a=b)):=⟨fun h=>by cases h; rfl,fun {a b x y H} h h'=>by
 cases h; cases h'
 unfold eqV
 rw [Bool.eq_iff_iff,decide_eq_true_iff]
 constructor
 ·intro h
  have h:=eq_of_beq h
  injection h with h
  simpa using congrArg Array.toList h
 ·rintro rfl; exact beq_self_eq_true _⟩
theorem zj7_ {q:α→α→Bool}(f:Flt T q) {H:Hp}{a:α}{x:V}(ha:T.R a x H) {xs:List α}{vs:List V}(r:Prs T H xs vs):vs.all flatV=true∧inV x vs=xs.any fun y=>q y a:=by
 induction r with
 | nil=>exact ⟨rfl,rfl⟩
 | cons r t ih =>
  refine ⟨by rw [List.all_cons,f.flat r,ih.1]; rfl,?_⟩
  unfold inV at ih ⊢
  rw [List.any_cons,List.any_cons,f.eq r ha,ih.2]
theorem zhl_ {q:α→α→Bool}(f:Flt T q):Op2 K (mIn K true) E T (tyL T) (fun a b=>.ok (!(b.any fun y=>q y a))) tyBl:=by
 rintro a b x y F H Q hs hx ⟨p,vs,rfl,hp,hr⟩ k
 obtain ⟨h1,h2⟩:=zj7_ f hx hr
 refine ⟨vs,.inl (.of (hs _ _ hp)),f.flat hx,h1,?_⟩
 rw [h2]
 exact k.ok hs _ rfl
noncomputable def TyN (K:Fgg) (T:Ty α) (n:String):Prop:=∀ {a x H},T.R a x H→tyS K H x n
theorem zlJ_:TyN K tyStr "str" := fun h=>by cases h; rfl
theorem tn_l:TyN K (tyL T) "list" := fun ⟨p,vs,e,h,_⟩=>by subst e; exact .inl ⟨rfl,vs,h⟩
theorem zhC_ {x:V}{n c:String}{bb:Bool}{Q:VK}(h:tyS K H x n) (hb:isaB n c=some bb) (q:Q (.bl bb) H):mIsa K [x,.ty c] H Q:=by
 cases x with
 | non=>cases (show n=_ from h); show (match isaB "NoneType" c with | some b=>Q (.bl b) H | none=>False); rw [hb]; exact q
 | bl _=>cases (show n=_ from h); show (match isaB "bool" c with | some b=>Q (.bl b) H | none=>False); rw [hb]; exact q
 | int _=>cases (show n=_ from h); show (match isaB "int" c with | some b=>Q (.bl b) H | none=>False); rw [hb]; exact q
 | str _=>cases (show n=_ from h); show (match isaB "str" c with | some b=>Q (.bl b) H | none=>False); rw [hb]; exact q
 | ref p=>exact ⟨n,h,by rw [hb]; exact q⟩
 | _=>exact h.elim
theorem zmn_ {n c:String}{bb:Bool}(hn:TyN K T n) (h:EvF K e E L r T) (hb:isaB n c=some bb:=by decide):EvF K (tCB (mIsa K) (tCons e (tCons (tC (.ty c)) tNil))) E L (r.bind fun _=>.ok bb) tyBl:=by
 intro σ F H Q hL hs q
 refine h σ F H _ hL hs (q.bind.imp fun l F1 H1 x1 k1 v hv=>?_)
 exact zhC_ (hn (T.mono x1.2.1 hv)) hb (k1.ok x1.2.1 _ rfl)
noncomputable def Me (K:Fgg) (m:V→List V→Hp→VK→Prop) (E:XK) (C:Cs γ) (g:List Nat→γ→Mo α) (T:Ty α):Prop :=
 ∀ l c vs F H (Q:VK),Same F H→C.R c vs F→After K (g l c) E F H (fun c F' H'=>∀ v,T.R c v F'→Q v H')→m (tx l) vs H Q
theorem ev_me {m:V→List V→Hp→VK→Prop}{C:Cs γ}{g:List Nat→γ→Mo α}{ta:TA}{r0:Mo (List Nat)}{r:Mo γ}(hb:Me K m E C g T) (h0:EvF K e E L r0 tyStr) (h:EvA K ta E L r C):EvF K (tBM K "str" m e ta) E L (r0.bind fun l=>r.bind fun c=>g l c) T:=by
 intro σ F H Q hL hs q
 refine h0 σ F H _ hL hs (q.bind.imp fun l F1 H1 x1 k1 v hv=>?_)
 cases hv
 refine ⟨rfl,h σ F1 H1 _ (hL.mono x1.1) x1.2.1 (k1.bind.imp fun c F2 H2 x2 k2 vs hvs=>hb l c vs F2 H2 Q x2.2.1 hvs k2)⟩
end
end L2
namespace L2
open PySem PySem.Spec PyProof.Rows
section
variable {K:Fgg}{E:XK}{α β γ ρ S S' B:Type}{F H:Hp}{L:List Sl}{e e1 e2:TE}{T:Ty α}{r:Mo α}
noncomputable def setL (L:List Sl) (ss:List (Nat×Sl)):List Sl:=ss.foldl (fun L q=>L.set q.1 q.2) L
noncomputable def setS (σ:St) (ss:List (Nat×Option V)):St:=ss.foldl (fun L q=>L.set q.1 q.2) σ
inductive Plain (F:Hp):List (Nat×Sl)→List (Nat×Option V)→Prop
 | nil:Plain F [] []
 | cons {α:Type}{T:Ty α}{a:α}{i:Nat}{v:V}{ss vs} (h:T.R a v F) (t:Plain F ss vs):Plain F ((i,.fz T a)::ss) ((i,some v)::vs)
noncomputable def TgR (K:Fgg) (g:TG) (T:Ty α) (ss:α→List (Nat×Sl)):Prop :=
 ∀ a v σ F H (Q:St→Hp→Prop),Same F H→T.R a v F→(∀ vs,Plain F (ss a) vs→Q (setS σ vs) H)→g v σ H Q
theorem zbq_ (i:Nat):TgR K (gName i) T fun a=>[(i,.fz T a)]:=by
 intro a v σ F H Q hs hv q
 exact q [(i,some v)] (.cons hv .nil)
theorem zeW_ {σ:St}{i j:Nat}{o:Option V}(h:i<σ.length):((σ.set i o)[j]?).join=if i=j then o else (σ[j]?).join:=by
 rw [List.getElem?_set]
 split
 ·rename_i e; subst e; first | rfl | (rw [if_pos h]; rfl)
 ·rfl
theorem ziv_ {σ:St}{i:Nat}{s:Sl}{o:Option V}(hl:L.length=σ.length) (h:HoldF L σ F) (hs:s.Z o F):HoldF (L.set i s) (σ.set i o) F:=by
 intro j t e
 rw [List.getElem?_set] at e
 split at e
 ·rename_i z; subst z
  split at e
  ·rename_i y; cases e
   rw [zeW_ (by rw [← hl]; exact y),if_pos rfl]; exact hs
  ·cases e
 ·rename_i z
  by_cases y:i<σ.length
  ·rw [zeW_ y,if_neg z]; exact h j t e
  ·rw [List.set_eq_of_length_le (by lia)]; exact h j t e
theorem zf6_ {ss:List (Nat×Sl)}{vs:List (Nat×Option V)}(p:Plain F ss vs):∀ {L:List Sl}{σ:St},L.length=σ.length→HoldF L σ F→HoldF (setL L ss) (setS σ vs) F∧(setS σ vs).length=σ.length∧(setL L ss).length=L.length:=by
 induction p with
 | nil=>exact fun hl h=>⟨h,rfl,rfl⟩
 | cons hv t ih =>
  rename_i T a i v ss vs
  intro L σ hl h
  obtain ⟨a1,b,c⟩:=ih (L:=L.set i (.fz T a)) (σ:=σ.set i (some v)) (by rw [List.length_set,List.length_set]; exact hl) (ziv_ (s:=.fz T a) hl h ⟨v,rfl,hv⟩)
  exact ⟨a1,b.trans (by rw [List.length_set]),c.trans (by rw [List.length_set])⟩
noncomputable def DeadAt (L:List Sl) (is:List Nat):Prop:=∀ i∈is,∀ s,L[i]?=some s→s=.dead
theorem zgX_ {ss:List (Nat×Sl)}{vs:List (Nat×Option V)}(p:Plain F ss vs):∀ {L:List Sl}{σ:St},L.length=σ.length→DeadAt L (ss.map (·.1))→HoldF L σ F→HoldF L (setS σ vs) F:=by
 induction p with
 | nil=>exact fun hl d h=>h
 | cons hv t ih =>
  rename_i i v ss vs
  intro L σ hl d h
  refine ih (σ:=σ.set i (some v)) (by rw [List.length_set]; exact hl) (fun j hj=>d j (List.mem_cons_of_mem _ hj)) fun j s e=>?_
  by_cases y:i<σ.length
  ·rw [zeW_ y]
   split
   ·rename_i z; subst z
    rw [d i List.mem_cons_self s e]; trivial
   ·exact h j s e
  ·rw [List.set_eq_of_length_le (by lia)]; exact h j s e
theorem zjo_ {ss:List (Nat×Sl)}{vs:List (Nat×Option V)}(p:Plain F ss vs) {j:Nat}:∀ {σ:St},j∉ss.map (·.1)→(setS σ vs)[j]?=σ[j]?:=by
 induction p with
 | nil=>exact fun _=>rfl
 | cons hv t ih =>
  rename_i i v ss vs
  intro σ hj
  have h1:i≠j:=fun z=>hj (by rw [← z]; exact List.mem_cons_self)
  have h2:=ih (σ:=σ.set i (some v)) fun z=>hj (List.mem_cons_of_mem _ z)
  exact h2.trans (List.getElem?_set_ne h1)
structure Yl (K:Fgg) (J:It) (xs:List α) (T:Ty α) (F1:Hp):Prop where
 go:∀ i H x,Same F1 H→xs[i]?=some x→J.go i H∧∀ v H',J.yld i H v H'→∀ F,Same F1 F→Same F H→∃ F',Ext F H F' H'∧T.R x v F'
 stop:∀ H,Same F1 H→J.stop xs.length H
noncomputable def EvI (K:Fgg) (wi:TI) (E:XK) (L:List Sl) (r:Mo (List α)) (T:Ty α):Prop :=
 ∀ σ F H (R:It→Hp→Prop),HoldF L σ F→Same F H→After K r E F H (fun xs F' H'=>∀ J,Yl K J xs T F'→R J H')→wi σ H R
theorem zme_ {r:Mo (List Nat)}(h:EvF K e E L r tyStr):EvI K (iAny K e) E L (r.bind fun l=>.ok (l.map fun c=>[c])) tyStr:=by
 intro σ F H R hL hs q
 refine h σ F H _ hL hs (q.bind.imp fun l F1 H1 x1 k1 v hv=>?_)
 cases hv
 refine k1.ok x1.2.1 _ ⟨fun i H x hH hx=>?_,fun H hH=>?_⟩
 ·rw [List.getElem?_map] at hx
  cases e:l[i]? with
  | none=>rw [e] at hx; cases hx
  | some c =>
   rw [e] at hx; cases hx
   have hi:=(List.getElem?_eq_some_iff.mp e).1
   refine ⟨hi,?_⟩
   rintro v H' ⟨rfl,rfl⟩ F _ hF
   refine ⟨F,.refl hF,?_⟩
   show tx [l.getD i 0]=tx [c]
   rw [List.getD_eq_getElem?_getD,e]; rfl
 ·show l.length≤(l.map fun c=>[c]).length
  rw [List.length_map]; exact Nat.le_refl _
theorem ei_l {r:Mo (List α)}(h:EvF K e E L r (tyL T)):EvI K (iAny K e) E L r T:=by
 intro σ F H R hL hs q
 refine h σ F H _ hL hs (q.imp fun l F1 H1 x1 k1 v hv=>?_)
 obtain ⟨p,vs,rfl,hp,hr⟩:=hv
 refine .inl ⟨⟨vs,.of (x1.2.1 _ _ hp)⟩,k1 _ ⟨fun i H x hH hx=>?_,fun H hH=>⟨vs,.of (hH _ _ hp),by rw [hr.len]; exact Nat.le_refl _⟩⟩⟩
 rcases hr.get i with ⟨a,_⟩ | ⟨y,u,a,b,c⟩
 ·rw [a] at hx; cases hx
 ·rw [a] at hx; cases hx
  refine ⟨⟨vs,u,.of (hH _ _ hp),b⟩,?_⟩
  rintro v H' ⟨rfl,z⟩ F hF hF'
  have e:=z vs (.of (hH _ _ hp))
  rw [b] at e; cases e
  exact ⟨F,.refl hF',T.mono hF c⟩
noncomputable def rngI (lo:Int) (n:Nat):List Int:=(List.range n).map fun (i:Nat)=>lo+i
theorem zmr_ {lo:Int}{n:Nat}{F1:Hp}:Yl K (Itr lo n) (rngI lo n) tyInt F1:=by
 refine ⟨fun i H x hH hx=>?_,fun H hH=>?_⟩
 ·unfold rngI at hx
  rw [List.getElem?_map] at hx
  cases e:(List.range n)[i]? with
  | none=>rw [e] at hx; cases hx
  | some c =>
   rw [e] at hx; cases hx
   obtain ⟨hi,e⟩:=List.getElem?_eq_some_iff.mp e
   rw [List.getElem_range] at e; subst e
   rw [List.length_range] at hi
   refine ⟨hi,?_⟩
   rintro v H' ⟨rfl,rfl⟩ F _ hF
   exact ⟨F,.refl hF,rfl⟩
 ·show n≤_
  unfold rngI; rw [List.length_map,List.length_range]; exact Nat.le_refl _
theorem ziN_ {r:Mo (Int×Int)}{ta:TA}(h:EvA K ta E L r (csCons tyInt (csLast tyInt))):EvI K (mRng2 ta) E L (r.bind fun c=>.grd (-(2 ^ 62)≤c.1∧c.1<2 ^ 62 ∧ -(2 ^ 62)≤c.2∧c.2<2 ^ 62) (.ok (rngI c.1 (c.2-c.1).toNat))) tyInt:=by
 intro σ F H R hL hs q
 refine h σ F H _ hL hs (q.bind.imp fun l F1 H1 x1 k1 v hv=>?_)
 obtain ⟨u,us,rfl,rfl,w,rfl,rfl⟩:=hv
 obtain ⟨z,k1⟩:=k1.grd
 exact ⟨z,k1.ok x1.2.1 _ zmr_⟩
noncomputable def compM (f:α→Mo (Option β)):List α→List β→Mo (List β)
 | [],acc=>.ok acc
 | x::xs,acc=>(f x).bind fun o=>match o with | none=>compM f xs acc | some y=>.lim (acc.length+1) (compM f xs (acc++[y]))
theorem zf3_ {f:α→Mo (Option β)}{g:α→β}:∀ {xs:List α}{acc:List β},(∀ x∈xs,f x=.ok (some (g x)))→acc.length+xs.length≤100000→compM f xs acc=.ok (acc++xs.map g)
 | [],acc,_,_=>by unfold compM; rw [List.map_nil,List.append_nil]
 | x::xs,acc,h,hl=>by
  rw [List.length_cons] at hl
  unfold compM
  rw [h x List.mem_cons_self,Mo.ok_bind]
  show Mo.lim _ _=_
  rw [Mo.lim_ok (by lia),zf3_ (fun y hy=>h y (List.mem_cons_of_mem _ hy)) (by rw [List.length_append,List.length_singleton]; lia)]
  simp
theorem zbn_ {f:α→Mo (Option β)}{g:α→Option β}:∀ {xs:List α}{acc:List β},(∀ x∈xs,f x=.ok (g x))→acc.length+xs.length≤100000→compM f xs acc=.ok (acc++xs.filterMap g)
 | [],acc,_,_=>by unfold compM; rw [List.filterMap_nil,List.append_nil]
 | x::xs,acc,h,hl=>by
  rw [List.length_cons] at hl
  unfold compM
  rw [h x List.mem_cons_self,Mo.ok_bind,List.filterMap_cons]
  cases e:g x with
  | none=>exact zbn_ (fun y hy=>h y (List.mem_cons_of_mem _ hy)) (by lia)
  | some z =>
   show Mo.lim _ _=_
   rw [Mo.lim_ok (by lia),zbn_ (fun y hy=>h y (List.mem_cons_of_mem _ hy)) (by rw [List.length_append,List.length_singleton]; lia)]
   simp
theorem zc2_ {f:α→Mo (Option α)}{g:α→Bool}{xs acc:List α}(h:∀ x∈xs,f x=.ok (if g x then some x else none)) (hl:acc.length+xs.length≤100000):compM f xs acc=.ok (acc++xs.filter g):=by
 rw [zbn_ h hl]
 congr 2
 induction xs with
 | nil=>rfl
 | cons x xs ih =>
  rw [List.filterMap_cons,List.filter_cons]
  cases e:g x with
  | true=>simp only [if_true]; rw [ih (fun y hy=>h y (List.mem_cons_of_mem _ hy)) (by rw [List.length_cons] at hl; lia)]
  | false=>exact ih (fun y hy=>h y (List.mem_cons_of_mem _ hy)) (by rw [List.length_cons] at hl; lia)
noncomputable def cL (lv:List Str) (fr:List (Str×Nat)) (L:List Sl):List Sl:=lv.map (fun _=>Sl.dead)++fr.map fun q=>(L[q.2]?).getD .dead
theorem zgt_ {lv:List Str}{fr:List (Str×Nat)}{σ:St}(h:HoldF L σ F):HoldF (cL lv fr L) (cS lv fr σ) F:=by
 intro i s e
 unfold cL at e
 unfold cS
 by_cases hi:i<lv.length
 ·rw [List.getElem?_append_left (by rw [List.length_map]; exact hi),List.getElem?_map,List.getElem?_eq_getElem hi] at e
  cases e; trivial
 ·rw [List.getElem?_append_right (by rw [List.length_map]; lia),List.length_map,List.getElem?_map] at e
  rw [List.getElem?_append_right (by rw [List.length_map]; lia),List.length_map,List.getElem?_map]
  cases z:fr[i-lv.length]? with
  | none=>rw [z] at e; cases e
  | some q =>
   rw [z] at e
   have e:(L[q.2]?).getD .dead=s:=by simpa using e
   show Sl.Z s (σ[q.2]?).join F
   cases y:L[q.2]? with
   | none=>rw [y] at e; rw [← e]; trivial
   | some t=>rw [y] at e; cases e; exact h _ _ y
theorem zjE_ {lv:List Str}{fr:List (Str×Nat)}{σ:St}:(cL lv fr L).length=(cS lv fr σ).length:=by unfold cL cS; simp
noncomputable def cond1 (c:Mo Bool) (f:Mo β):Mo (Option β):=(c.bind fun b=>if b then f.bind fun y=>.ok (some y) else .ok none).noex
theorem zhx_ {lv:List Str}{fr:List (Str×Nat)}{wi:TI}{g:TG}{tt:TT}{te:TE}{r:Mo (List α)}{ss:α→List (Nat×Sl)}{c:α→Mo Bool}{f:α→Mo β}{T':Ty β}
  (hi:EvI K wi E L r T) (hg:TgR K g T ss) (hd:∀ a,DeadAt (cL lv fr L) ((ss a).map (·.1))) (ht:∀ a,EvT K tt E0 (setL (cL lv fr L) (ss a)) (c a)) (he:∀ a,EvF K te E0 (setL (cL lv fr L) (ss a)) (f a) T') :
  EvO K (tComp lv fr wi g tt te) E L (r.bind fun xs=>compM (fun x=>cond1 (c x) (f x)) xs []) (owL T'):=by
 intro σ F0 H0 Q hL hs q
 refine hi σ F0 H0 _ hL hs (q.bind.imp fun xs F1 H1 x1 k1 J Y D hD=>?_)
 have hL1:=hL.mono x1.1
 refine ⟨fun i m ys σ' H'=>m=xs.length-i∧i≤xs.length∧∃ acc Fi,Ext F1 H1 Fi H'∧Fi D=none∧H' D=some (.lst ys)∧Prs T' Fi acc ys∧HoldF (cL lv fr L) σ' F1∧σ'.length=(cL lv fr L).length∧After K (compM (fun x=>cond1 (c x) (f x)) (xs.drop i) acc) E F1 H1 (OwnK (owL T') H0 Q),
  ⟨_,rfl,Nat.zero_le _,[],F1,.heap x1.2.1 (zb4_ hD _),x1.2.1.free hD,zau_,.nil,zgt_ hL1,zjE_.symm,k1⟩,?_⟩
 rintro i m ys σ' H' ⟨rfl,hi,acc,Fi,xi,hDi,hy,hp,hσ,hln,A⟩
 by_cases hlt:i<xs.length
 ·right
  have ex:xs[i]?=some xs[i]:=List.getElem?_eq_getElem hlt
  obtain ⟨g1,g2⟩:=Y.go i H' xs[i] (xi.1.trans xi.2.1) ex
  refine ⟨g1,fun ys' σ'' H''=>i+1≤xs.length∧∃ acc Fi,Ext F1 H1 Fi H''∧Fi D=none∧H'' D=some (.lst ys')∧Prs T' Fi acc ys'∧HoldF (cL lv fr L) σ'' F1∧σ''.length=(cL lv fr L).length∧After K (compM (fun x=>cond1 (c x) (f x)) (xs.drop (i+1)) acc) E F1 H1 (OwnK (owL T') H0 Q),fun ys' σ'' H'' z=>⟨xs.length-(i+1),by lia,rfl,z⟩,fun v H2 hyl=>?_⟩
  obtain ⟨F2,x2,hv⟩:=g2 v H2 hyl Fi xi.1 xi.2.1
  have keep:∀ {Fa Ha Fb Hb:Hp},Ext Fa Ha Fb Hb→Fa D=none→Ha D=some (.lst ys)→Fb D=none∧Hb D=some (.lst ys):=by
   intro Fa Ha Fb Hb x h1 h2
   refine ⟨?_,x.2.2.1 _ _ h2⟩
   cases z:Fb D with
   | none=>rfl
   | some o=>have:=x.2.2.2 D h1 (by rw [z]; exact Option.some_ne_none _); rw [h2] at this; cases this
  obtain ⟨hD2,hy2⟩:=keep x2 hDi hy
  refine hg xs[i] v σ' F2 H2 _ x2.2.1 hv fun vs hpl=>?_
  have hσ2:HoldF (cL lv fr L) σ' F2:=hσ.mono (xi.1.trans x2.1)
  obtain ⟨a1,a2,a3⟩:=zf6_ hpl hln.symm hσ2
  have hσd:HoldF (cL lv fr L) (setS σ' vs) F1:=by
   have hdead:=hd xs[i]
   refine fun j s e=>?_
   have h1:=zgX_ hpl hln.symm hdead hσ2
   by_cases hj:∃ q∈(ss xs[i]).map (·.1),q=j
   ·obtain ⟨q,hq,rfl⟩:=hj
    rw [hdead q hq s e]; trivial
   ·have:((setS σ' vs)[j]?)=σ'[j]?:=by
     exact zjo_ hpl (fun hq=>hj ⟨j,hq,rfl⟩)
    rw [this]; exact hσ j s e
  have hdrop:xs.drop i=xs[i]::xs.drop (i+1):=List.drop_eq_getElem_cons hlt
  rw [hdrop] at A
  unfold compM at A
  cases ec:c xs[i] with
  | no=>unfold cond1 at A; rw [ec] at A; exact A.elim
  | ex cc=>unfold cond1 at A; rw [ec] at A; exact A.elim
  | ok bb =>
   refine ht xs[i] _ F2 H2 _ a1 x2.2.1 ?_
   rw [ec]
   intro F3 H3 x3
   obtain ⟨hD3,hy3⟩:=keep x3 hD2 hy2
   have x13:=(xi.trans x2).trans x3
   cases bb with
   | false =>
    rw [if_neg (by decide)]
    refine ⟨hlt,acc,F3,x13,hD3,hy3,hp.mono (x2.1.trans x3.1),hσd,by rw [a2]; exact hln,?_⟩
    unfold cond1 at A; rw [ec] at A
    exact A
   | true =>
    rw [if_pos rfl]
    cases ef:f xs[i] with
    | no=>unfold cond1 at A; rw [ec,ef] at A; exact A.elim
    | ex cc=>unfold cond1 at A; rw [ec,ef] at A; exact A.elim
    | ok y =>
     unfold cond1 at A; rw [ec,ef] at A
     have A':After K (Mo.lim (acc.length+1) (compM (fun x=>cond1 (c x) (f x)) (xs.drop (i+1)) (acc++[y]))) E F1 H1 (OwnK (owL T') H0 Q):=A
     obtain ⟨hz,A'⟩:=A'.lim
     refine he xs[i] _ F3 H3 _ (a1.mono x3.1) x3.2.1 ?_
     rw [ef]
     intro F4 H4 x4 v4 hv4
     obtain ⟨hD4,hy4⟩:=keep x4 hD3 hy3
     have hlen:=hp.len
     refine ⟨hy4,by lia,hlt,acc++[y],F4,?_,hD4,zau_,(hp.mono ((x2.1.trans x3.1).trans x4.1)).append (.cons hv4 .nil),hσd,by rw [a2]; exact hln,A'⟩
     have x14:=x13.trans x4
     refine ⟨x14.1,fun b o z=>?_,fun b o z=>?_,x14.2.2.2⟩
     ·unfold upd; split
      ·rename_i w; rw [w,hD4] at z; cases z
      ·exact x14.2.1 _ _ z
     ·unfold upd; split
      ·rename_i w; rw [w,hD] at z; cases z
      ·exact x14.2.2.1 _ _ z
 ·left
  have e:i=xs.length:=by lia
  subst e
  refine ⟨Y.stop H' (xi.1.trans xi.2.1),?_⟩
  rw [List.drop_length] at A
  have A':OwnK (owL T') H0 Q acc Fi H':=A Fi H' xi
  exact zg1_ (x1.2.2.1.free hD) hy hDi hp A'
end
end L2
namespace L2
open PySem PySem.Spec PyProof.Rows
inductive Out (ρ B S:Type) where
 | nx (s:S) | rt (r:ρ) | bk (b:B) | ct (b:B)
noncomputable def Okk (F0 H0 F h H:Hp):Prop:=Ext F0 H0 F H∧Dj F h∧Same h H∧(∀ p,h p≠none→H0 p=none)∧∀ p xs,h p≠some (.tup xs)
section
variable {K:Fgg}{E:XK}{α β γ ρ S S' B B':Type}{F0 H0 F h H:Hp}{L:List Sl}{e e1 e2:TE}{T:Ty α}{r:Mo α}{O:Own ρ}
noncomputable def Fin (K:Fgg) (r:Mo (Out ρ B S)) (E:XK) (LS:S→List Sl) (LB:B→List Sl) (O:Own ρ) (F0 H0:Hp) (D:Ends):Prop:=match r with
 | .ok (.nx s)=>∀ σ F h H,Hold (LS s) σ F h→Okk F0 H0 F h H→D.nx σ H
 | .ok (.bk b)=>∀ σ F h H,Hold (LB b) σ F h→Okk F0 H0 F h H→D.bk σ H
 | .ok (.ct b)=>∀ σ F h H,Hold (LB b) σ F h→Okk F0 H0 F h H→D.ct σ H
 | .ok (.rt a)=>∀ v F h H,Okk F0 H0 F h H→O.O a v F h→D.rt v H
 | .ex c=>∀ F h H,Okk F0 H0 F h H→E (.ref (gA K c)) none H
 | .no=>False
noncomputable def EvS (K:Fgg) (t:TS) (E:XK) (L:List Sl) (r:Mo (Out ρ B S)) (LS:S→List Sl) (LB:B→List Sl) (O:Own ρ):Prop :=
 ∀ F0 H0 σ F h H (D:Ends),Hold L σ F h→Okk F0 H0 F h H→Fin K r E LS LB O F0 H0 D→t D σ H
variable {t u:TS}{LS:S→List Sl}{LS':S'→List Sl}{LB:B→List Sl}
noncomputable def thenO (r:Mo (Out ρ B S)) (k:S→Mo (Out ρ B S')):Mo (Out ρ B S'):=r.bind fun o=>match o with | .nx s=>k s | .rt a=>.ok (.rt a) | .bk b=>.ok (.bk b) | .ct b=>.ok (.ct b)
theorem za8_ {r:Mo (Out ρ B S)}{k:S→Mo (Out ρ B S')}(h1:EvS K t E L r LS LB O) (h2:∀ s,EvS K u E (LS s) (k s) LS' LB O):EvS K (tSeq t u) E L (thenO r k) LS' LB O:=by
 intro F0 H0 σ F h H D hL ok fin
 refine h1 F0 H0 σ F h H { D with nx:=u D } hL ok ?_
 cases r with
 | no=>exact fin
 | ex c=>exact fin
 | ok o =>
  cases o with
  | nx s=>exact fun σ F h H hL ok=>h2 s F0 H0 σ F h H D hL ok fin
  | rt a=>exact fin
  | bk b=>exact fin
  | ct b=>exact fin
theorem Okk.thaw (ok:Okk F0 H0 F h H):Same (un F h) H:=fun p o e=>by
 unfold un at e
 cases z:F p with
 | some w=>rw [z] at e; cases e; exact ok.1.2.1 _ _ z
 | none=>rw [z] at e; exact ok.2.2.1 _ _ e
noncomputable def less (G h:Hp):Hp:=fun p=>match h p with | none=>G p | some _=>none
theorem zh1_ {G h:Hp}{p:Addr}(e:h p=none):less G h p=G p:=by unfold less; rw [e]
theorem Okk.back (ok:Okk F0 H0 F h H) {G' H':Hp}(x:Ext (un F h) H G' H'):Okk F0 H0 (less G' h) h H'∧Same F (less G' h)∧Tups G' (less G' h):=by
 obtain ⟨o1,o2,o3,o4,o5⟩:=ok
 have hs:Same F (less G' h):=fun p o e=>by
  have hp:h p=none:=by
   rcases o2 p with z | z
   ·rw [z] at e; cases e
   ·exact z
  rw [zh1_ hp]; exact x.1 _ _ (zcE_ _ _ e)
 refine ⟨⟨⟨o1.1.trans hs,fun p o e=>?_,o1.2.2.1.trans x.2.2.1,fun p a b=>?_⟩,fun p=>?_,fun p o e=>?_,o4,o5⟩,hs,fun p xs e=>?_⟩
 ·unfold less at e
  split at e
  ·exact x.2.1 _ _ e
  ·cases e
 ·unfold less at b
  split at b
  ·rename_i z
   cases y:un F h p with
   | none=>exact o1.2.2.1.free (x.2.2.2 p y b)
   | some o =>
    unfold un at y
    cases w:F p with
    | some _=>exact o1.2.2.2 p a (by rw [w]; exact Option.some_ne_none _)
    | none=>rw [w,z] at y; cases y
  ·exact absurd rfl b
 ·unfold less
  cases z:h p with
  | none=>exact .inr rfl
  | some o=>exact .inl rfl
 ·exact x.2.1 _ _ (x.1 _ _ (zhX_ o2 _ _ e))
 ·unfold less
  cases z:h p with
  | none=>exact e
  | some o =>
   have:=x.1 _ _ (zhX_ o2 _ _ z)
   rw [e] at this; cases this
   exact absurd z (o5 p xs)
theorem zbx_ {r:Mo α}{k:α→Mo (Out ρ B S)}{G:Hp}{D:Ends}{kk:α→Hp→Hp→Prop}(ok:Okk F0 H0 F h H) (G1:Hp) (hG:G1=un F h∨G1=F) (fin:Fin K (r.bind k) E LS LB O F0 H0 D)
  (hk:∀ a F' H',r=.ok a→Ext G1 H F' H'→kk a F' H'):After K r E G1 H kk:=by
 cases r with
 | ok a=>exact fun F' H' x=>hk a F' H' rfl x
 | no=>exact fin
 | ex c =>
  intro F' H' x
  rcases hG with rfl | rfl
  ·exact fin _ _ _ (ok.back x).1
  ·refine fin F' h H' ⟨ok.1.trans x,fun p=>?_,ok.2.2.1.trans x.2.2.1,ok.2.2.2.1,ok.2.2.2.2⟩
   cases z:h p with
   | none=>exact .inr rfl
   | some o =>
    left
    rcases ok.2.1 p with y | y
    ·cases w:F' p with
     | none=>rfl
     | some o'=>have:=x.2.2.2 p y (by rw [w]; exact Option.some_ne_none _); rw [ok.2.2.1 _ _ z] at this; cases this
    ·rw [y] at z; cases z
theorem Okk.cold (ok:Okk F0 H0 F h H) {F' H':Hp}(x:Ext F H F' H'):Okk F0 H0 F' h H':=by
 refine ⟨ok.1.trans x,fun p=>?_,ok.2.2.1.trans x.2.2.1,ok.2.2.2.1,ok.2.2.2.2⟩
 cases z:h p with
 | none=>exact .inr rfl
 | some o =>
  left
  rcases ok.2.1 p with y | y
  ·cases w:F' p with
   | none=>rfl
   | some o'=>have:=x.2.2.2 p y (by rw [w]; exact Option.some_ne_none _); rw [ok.2.2.1 _ _ z] at this; cases this
  ·rw [y] at z; cases z
theorem zcM_ {i:Nat}{s:Sl}{σ:St}{a:α}{v:V}(hi:L[i]?=some s) (hL:Hold L σ F h) (hv:T.R a v F):Hold (L.set i (.fz T a)) (σ.set i (some v)) F h:=by
 obtain ⟨o,h1,h2,_,j,_,f⟩:=hL.at i hi
 exact f (.fz T a) (some v) h1 h j ⟨v,rfl,hv⟩
theorem zil_ {i:Nat}{s:Sl}{σ:St}{a:α}{v:V}{O1:Own α}{hn:Hp}(ok:Okk F0 H0 F h H) (hi:L[i]?=some s) (hL:Hold L σ F h) (fresh:∀ p,hn p≠none→H0 p=none) (dj:Dj F hn) (dh:Dj hn h) (hs:Same hn H) (hv:O1.O a v F hn) :
  ∃ h',Hold (L.set i (.ow O1 a)) (σ.set i (some v)) F h'∧Okk F0 H0 F h' H:=by
 obtain ⟨o,h1,h2,_,j,_,f⟩:=hL.at i hi
 have d2:Dj hn h2:=fun p=>by
  rcases dh p with z | z
  ·exact .inl z
  ·exact .inr (j.r.free z)
 refine ⟨un hn h2,f (.ow O1 a) (some v) hn _ (zlC_ d2) ⟨v,rfl,hv⟩,ok.1,fun p=>?_,fun p o e=>?_,fun p e=>?_,fun p xs e=>?_⟩
 ·unfold un
  cases z:hn p with
  | some w =>
   rcases dj p with y | y
   ·exact .inl y
   ·rw [y] at z; cases z
  | none =>
   rcases ok.2.1 p with y | y
   ·exact .inl y
   ·exact .inr (j.r.free y)
 ·unfold un at e
  cases z:hn p with
  | some w=>rw [z] at e; cases e; exact hs _ _ z
  | none=>rw [z] at e; exact ok.2.2.1 _ _ (j.r _ _ e)
 ·unfold un at e
  cases z:hn p with
  | some w=>exact fresh p (by rw [z]; exact Option.some_ne_none _)
  | none =>
   rw [z] at e
   cases y:h2 p with
   | none=>exact absurd y e
   | some w=>exact ok.2.2.2.1 p (by rw [j.r _ _ y]; exact Option.some_ne_none _)
 ·unfold un at e
  cases z:hn p with
  | some w=>rw [z] at e; cases e; exact O1.notup hv p xs z
  | none=>rw [z] at e; exact ok.2.2.2.2 p xs (j.r _ _ e)
theorem zdM_ {i:Nat}{s:Sl}{k:α→Mo (Out ρ B S)}(hi:L[i]?=some s) (hT:Imm T) (he:EvF K e E L r T) (hk:∀ a,EvS K u E (L.set i (.fz T a)) (k a) LS LB O):EvS K (tSeq (tAsg e (gName i)) u) E L (r.bind k) LS LB O:=by
 intro F0 H0 σ F h H D hL ok fin
 refine he σ (un F h) H _ (hL.froz ok.2.1) ok.thaw (zbx_ (G:=F) ok _ (.inl rfl) fin fun a F' H' hr x v hv=>?_)
 obtain ⟨o,hs,ht⟩:=ok.back x
 rw [hr] at fin
 exact hk a F0 H0 _ _ h H' D (zcM_ hi (hL.mono hs) (hT ht hv)) o fin
theorem zfA_ {i:Nat}{s:Sl}{k:α→Mo (Out ρ B S)}(hi:L[i]?=some s) (he:EvF K e E (L.map Sl.cold) r T) (hk:∀ a,EvS K u E (L.set i (.fz T a)) (k a) LS LB O):EvS K (tSeq (tAsg e (gName i)) u) E L (r.bind k) LS LB O:=by
 intro F0 H0 σ F h H D hL ok fin
 refine he σ F H _ hL.coldF ok.1.2.1 (zbx_ (G:=F) ok _ (.inr rfl) fin fun a F' H' hr x v hv=>?_)
 rw [hr] at fin
 exact hk a F0 H0 _ _ h H' D (zcM_ hi (hL.mono x.1) hv) (ok.cold x) fin
theorem zmA_ {hn h:Hp}(hh:Same h H) (fresh:∀ p,hn p≠none→H p=none):Dj hn h:=fun p=>by
 cases z:hn p with
 | none=>exact .inl rfl
 | some w =>
  have:=fresh p (by rw [z]; exact Option.some_ne_none _)
  exact .inr (hh.free this)
theorem zcA_ {i:Nat}{s:Sl}{O1:Own α}{k:α→Mo (Out ρ B S)}(hi:L[i]?=some s) (hO:ImmO O1) (he:EvO K e E L r O1) (hk:∀ a,EvS K u E (L.set i (.ow O1 a)) (k a) LS LB O):EvS K (tSeq (tAsg e (gName i)) u) E L (r.bind k) LS LB O:=by
 intro F0 H0 σ F h H D hL ok fin
 refine he σ (un F h) H _ (hL.froz ok.2.1) ok.thaw (zbx_ (G:=F) ok _ (.inl rfl) fin fun a F' H' hr x v hn fresh dj hsn hv=>?_)
 obtain ⟨o,hs,ht⟩:=ok.back x
 rw [hr] at fin
 have dj':Dj (less F' h) hn:=fun p=>by
  unfold less
  cases z:h p with
  | none=>exact dj p
  | some w=>exact .inl rfl
 obtain ⟨h',a1,a2⟩:=zil_ o hi (hL.mono hs) (fun p z=>ok.1.2.2.1.free (fresh p z)) dj' (zmA_ ok.2.2.1 fresh) hsn (hO ht hv)
 exact hk a F0 H0 _ _ h' H' D a1 a2 fin
theorem zcZ_ {α:Type}{l:List α}{i:Nat}{o:α}(h:l[i]?=some o):l.set i o=l:=by
 obtain ⟨hi,e⟩:=List.getElem?_eq_some_iff.mp h
 rw [← e]; exact List.set_getElem_self hi
theorem zjr_ {i:Nat}{O1:Own α}{a:α}{r:Mo (Out ρ B S)}(hi:L[i]?=some (.ow O1 a)) (hk:EvS K u E (L.set i (.fz O1.fr a)) r LS LB O):EvS K u E L r LS LB O:=by
 intro F0 H0 σ F h H D hL ok fin
 obtain ⟨o,h1,h2,e1,j,⟨v,e2,hv⟩,f⟩:=hL.at i hi
 obtain ⟨o1,o2,o3,o4,o5⟩:=ok
 have dj1:Dj F h1:=fun p=>by
  rcases o2 p with z | z
  ·exact .inl z
  ·exact .inr (j.l.free z)
 have dj2:Dj F h2:=fun p=>by
  rcases o2 p with z | z
  ·exact .inl z
  ·exact .inr (j.r.free z)
 have g1:Hold (L.set i (.dead)) σ F h2:=by
  have:=f .dead o (fun _=>none) h2 (fun p=>.inl ⟨rfl,rfl⟩) trivial
  rwa [zcZ_ e1] at this
 have g2:Hold (L.set i (.fz O1.fr a)) σ (un F h1) h2:=by
  have g3:=g1.mono (zcE_ (h:=h1))
  have hi':(L.set i Sl.dead)[i]?=some .dead:=by
   rw [List.getElem?_set_self]
   exact (List.getElem?_eq_some_iff.mp hi).1
  have:=zcM_ (T:=O1.fr) hi' g3 (O1.frz dj1 hv)
  rw [List.set_set] at this
  subst e2
  rwa [zcZ_ e1] at this
 refine hk F0 H0 σ _ h2 H D g2 ⟨⟨o1.1.trans zcE_,fun p o e=>?_,o1.2.2.1,fun p a b=>?_⟩,fun p=>?_,j.r.trans o3,fun p z=>?_,fun p xs e=>o5 p xs (j.r _ _ e)⟩ fin
 ·unfold un at e
  cases z:F p with
  | some w=>rw [z] at e; cases e; exact o1.2.1 _ _ z
  | none=>rw [z] at e; exact o3 _ _ (j.l _ _ e)
 ·unfold un at b
  cases z:F p with
  | some w=>exact o1.2.2.2 p a (by rw [z]; exact Option.some_ne_none _)
  | none =>
   rw [z] at b
   cases y:h1 p with
   | none=>exact absurd y b
   | some w=>exact o4 p (by rw [j.l _ _ y]; exact Option.some_ne_none _)
 ·unfold un
  cases z:F p with
  | some w =>
   rcases dj2 p with y | y
   ·rw [y] at z; cases z
   ·exact .inr y
  | none=>exact j.dj p
 ·cases y:h2 p with
  | none=>exact absurd y z
  | some w=>exact o4 p (by rw [j.r _ _ y]; exact Option.some_ne_none _)
theorem zbX_ {r:Mo ρ}(hO:ImmO O) (he:EvO K e E L r O):EvS K (tRet e) E L (r.bind fun a=>.ok (.rt a)) LS LB O:=by
 intro F0 H0 σ F h H D hL ok fin
 refine he σ (un F h) H _ (hL.froz ok.2.1) ok.thaw (zbx_ (G:=F) ok _ (.inl rfl) fin fun a F' H' hr x v hn fresh dj hsn hv=>?_)
 obtain ⟨o,hs,ht⟩:=ok.back x
 rw [hr] at fin
 refine fin v _ hn H' ⟨o.1,fun p=>?_,hsn,fun p z=>ok.1.2.2.1.free (fresh p z),O.notup hv⟩ (hO ht hv)
 unfold less
 cases z:h p with
 | none=>exact dj p
 | some w=>exact .inl rfl
theorem zcb_ {r:Mo ρ}(he:EvO K e E (L.map Sl.cold) r O):EvS K (tRet e) E L (r.bind fun a=>.ok (.rt a)) LS LB O:=by
 intro F0 H0 σ F h H D hL ok fin
 refine he σ F H _ hL.coldF ok.1.2.1 (zbx_ (G:=F) ok _ (.inr rfl) fin fun a F' H' hr x v hn fresh dj hsn hv=>?_)
 rw [hr] at fin
 exact fin v _ hn H' ⟨ok.1.trans x,dj,hsn,fun p z=>ok.1.2.2.1.free (fresh p z),O.notup hv⟩ hv
theorem zly_ {i:Nat}{a:ρ}(hi:L[i]?=some (.ow O a)):EvS K (tRet (mVar i)) E L (.ok (.rt a)) LS LB O:=by
 intro F0 H0 σ F h H D hL ok fin
 obtain ⟨o,h1,h2,e1,j,⟨v,e2,hv⟩,f⟩:=hL.at i hi
 subst e2
 show mVar i σ H D.rt
 unfold mVar
 rw [e1]
 obtain ⟨o1,o2,o3,o4,o5⟩:=ok
 refine fin v F h1 H ⟨o1,fun p=>?_,j.l.trans o3,fun p z=>?_,O.notup hv⟩ hv
 ·rcases o2 p with z | z
  ·exact .inl z
  ·exact .inr (j.l.free z)
 ·cases y:h1 p with
  | none=>exact absurd y z
  | some w=>exact o4 p (by rw [j.l _ _ y]; exact Option.some_ne_none _)
theorem s_if {c:TT}{b:Mo Bool}{r1 r2:Mo (Out ρ B S)}(hc:EvT K c E L b) (h1:EvS K t E L r1 LS LB O) (h2:EvS K u E L r2 LS LB O):EvS K (mIfS c t u) E L (b.bind fun c=>if c then r1 else r2) LS LB O:=by
 intro F0 H0 σ F h H D hL ok fin
 refine hc σ (un F h) H _ (hL.froz ok.2.1) ok.thaw (zbx_ (G:=F) ok _ (.inl rfl) fin fun a F' H' hr x=>?_)
 obtain ⟨o,hs,ht⟩:=ok.back x
 rw [hr] at fin
 have fin':Fin K (if a then r1 else r2) E LS LB O F0 H0 D:=fin
 refine ⟨fun z=>?_,fun z=>?_⟩
 ·rw [if_pos z] at fin'; exact h1 F0 H0 σ _ h H' D (hL.mono hs) o fin'
 ·rw [if_neg (by rw [z]; decide)] at fin'; exact h2 F0 H0 σ _ h H' D (hL.mono hs) o fin'
inductive Sub:List Sl→List Sl→Prop
 | nil:Sub [] []
 | same {s:Sl}{L L':List Sl}(h:Sub L L'):Sub (s::L) (s::L')
 | dead {s:Sl}{L L':List Sl}(h:Sub L L'):Sub (s::L) (.dead::L')
theorem Sub.hold {L L':List Sl}(w:Sub L L'):∀ {σ:St}{F h:Hp},Hold L σ F h→Hold L' σ F h:=by
 induction w with
 | nil=>exact fun h=>h
 | same _ ih =>
  intro σ F h q
  cases σ with
  | nil=>exact q.elim
  | cons o σ=>obtain ⟨h1,h2,j,p,r⟩:=q; exact ⟨h1,h2,j,p,ih r⟩
 | dead _ ih =>
  intro σ F h q
  cases σ with
  | nil=>exact q.elim
  | cons o σ=>obtain ⟨h1,h2,j,p,r⟩:=q; exact ⟨h1,h2,j,trivial,ih r⟩
theorem zl_ {s:S}(w:Sub L (LS s)):EvS K tNext E L (.ok (.nx s)) LS LB O:=fun F0 H0 σ F h H D hL ok fin=>fin σ F h H (w.hold hL) ok
theorem zen_ {r:Mo (Out ρ B S)}(h:EvS K (tSeq t tNext) E L r LS LB O):EvS K t E L r LS LB O:=h
noncomputable def forO (step:S→α→Mo (Out ρ S S)):List α→S→Mo (Out ρ B S)
 | [],s=>.ok (.nx s)
 | x::xs,s=>(step s x).bind fun o=>match o with | .nx s'=>forO step xs s' | .ct s'=>forO step xs s' | .bk s'=>.ok (.nx s') | .rt a=>.ok (.rt a)
theorem zgE_ {ss:List (Nat×Sl)}{vs:List (Nat×Option V)}(p:Plain F ss vs):∀ {L:List Sl}{σ:St},Hold L σ F h→Hold (setL L ss) (setS σ vs) F h:=by
 induction p with
 | nil=>exact fun h=>h
 | cons hv t ih =>
  rename_i T a i v ss vs
  intro L σ q
  refine ih (L:=L.set i (.fz T a)) (σ:=σ.set i (some v)) ?_
  by_cases hi:i<L.length
  ·exact zcM_ (List.getElem?_eq_getElem hi) q hv
  ·rw [List.set_eq_of_length_le (by lia),List.set_eq_of_length_le (by have:=q.len; lia)]; exact q
theorem Okk.rebase {F1 H1:Hp}(x:Ext F0 H0 F1 H1) (ok:Okk F0 H0 F h H) (s:Same F1 F):Okk F1 H0 F h H:=by
 obtain ⟨o1,o2,o3,o4,o5⟩:=ok
 refine ⟨⟨s,o1.2.1,o1.2.2.1,fun p a b=>o1.2.2.2 p (x.1.free a) b⟩,o2,o3,o4,o5⟩
theorem Okk.unbase {F1 H1:Hp}(x:Ext F0 H0 F1 H1) (ok:Okk F1 H0 F h H):Okk F0 H0 F h H:=by
 obtain ⟨o1,o2,o3,o4,o5⟩:=ok
 refine ⟨⟨x.1.trans o1.1,o1.2.1,o1.2.2.1,fun p a b=>?_⟩,o2,o3,o4,o5⟩
 cases z:F1 p with
 | none=>exact o1.2.2.2 p z b
 | some w=>exact x.2.2.2 p a (by rw [z]; exact Option.some_ne_none _)
theorem zhM_ {wi:TI}{g:TG}{tb:TS}{s0:S}{r:Mo (List α)}{ss:α→List (Nat×Sl)}{step:S→α→Mo (Out ρ S S)}(hi:EvI K wi E ((LS s0).map Sl.cold) r T) (hg:TgR K g T ss)
  (hb:∀ s a,EvS K tb E (setL (LS s) (ss a)) (step s a) LS LS O):EvS K (tFor wi g tb) E (LS s0) (r.bind fun xs=>forO step xs s0) LS LB O:=by
 intro F0 H0 σ F h H D hL ok fin
 refine hi σ F H _ hL.coldF ok.1.2.1 (zbx_ (G:=F) ok _ (.inr rfl) fin fun xs F1 H1 hr x1 J Y=>?_)
 rw [hr] at fin
 have xx:=ok.1.trans x1
 refine ⟨fun i m σ H=>m=xs.length-i∧i≤xs.length∧∃ s F h,Hold (LS s) σ F h∧Okk F1 H0 F h H∧Fin K (forO (B:=B) step (xs.drop i) s) E LS LB O F0 H0 D,
  ⟨_,rfl,Nat.zero_le _,s0,F1,h,hL.mono x1.1,(ok.cold x1).rebase xx (Same.refl _),fin⟩,?_⟩
 rintro i m σ H ⟨rfl,hi,s,F,h,hL,ok,fin⟩
 have s1:Same F1 H:=ok.1.1.trans ok.1.2.1
 by_cases hlt:i<xs.length
 ·right
  obtain ⟨g1,g2⟩:=Y.go i H xs[i] s1 (List.getElem?_eq_getElem hlt)
  refine ⟨g1,fun σ' H'=>i+1≤xs.length∧∃ s F h,Hold (LS s) σ' F h∧Okk F1 H0 F h H'∧Fin K (forO (B:=B) step (xs.drop (i+1)) s) E LS LB O F0 H0 D,fun σ' H' z=>⟨xs.length-(i+1),by lia,rfl,z⟩,fun v H2 hy=>?_⟩
  obtain ⟨F2,x2,hv⟩:=g2 v H2 hy F ok.1.1 ok.1.2.1
  refine hg xs[i] v σ F2 H2 _ x2.2.1 hv fun vs hp=>?_
  refine hb s xs[i] F1 H0 _ F2 h H2 _ (zgE_ hp (hL.mono x2.1)) (ok.cold x2) ?_
  rw [List.drop_eq_getElem_cons hlt] at fin
  unfold forO at fin
  cases e:step s xs[i] with
  | no=>rw [e] at fin; exact fin
  | ex c=>rw [e] at fin; exact fun F h H ok=>fin F h H (ok.unbase xx)
  | ok o =>
   rw [e] at fin
   cases o with
   | nx s'=>exact fun σ' F' h' H' hL' ok'=>⟨hlt,s',F',h',hL',ok',fin⟩
   | ct s'=>exact fun σ' F' h' H' hL' ok'=>⟨hlt,s',F',h',hL',ok',fin⟩
   | bk s'=>exact fun σ' F' h' H' hL' ok'=>fin σ' F' h' H' hL' (ok'.unbase xx)
   | rt a=>exact fun v F h H ok=>fin v F h H (ok.unbase xx)
 ·left
  have e:i=xs.length:=by lia
  subst e
  rw [List.drop_length] at fin
  exact ⟨Y.stop H s1,fin σ F h H hL (ok.unbase xx)⟩
noncomputable def whileO (c:S→Mo Bool) (step:S→Mo (Out ρ S S)):Nat→S→Mo (Out ρ B S)
 | 0,_=>.no
 | n+1,s=>(c s).bind fun b=>if b then (step s).bind fun o=>match o with | .nx s'=>whileO c step n s' | .ct s'=>whileO c step n s' | .bk s'=>.ok (.nx s') | .rt a=>.ok (.rt a) else .ok (.nx s)
theorem ziD_ {tc:TT}{tb:TS}{s0:S}(n:Nat) {c:S→Mo Bool}{step:S→Mo (Out ρ S S)}(hc:∀ s,EvT K tc E (LS s) (c s)) (hb:∀ s,EvS K tb E (LS s) (step s) LS LS O) :
  EvS K (tWhile tc tb) E (LS s0) (whileO c step n s0) LS LB O:=by
 intro F0 H0 σ F h H D hL ok fin
 refine ⟨fun m σ H=>∃ s F h,Hold (LS s) σ F h∧Okk F0 H0 F h H∧Fin K (whileO (B:=B) c step m s) E LS LB O F0 H0 D,⟨n,s0,F,h,hL,ok,fin⟩,?_⟩
 rintro m σ H ⟨s,F,h,hL,ok,fin⟩
 cases m with
 | zero=>exact fin.elim
 | succ m =>
  unfold whileO at fin
  refine hc s σ (un F h) H _ (hL.froz ok.2.1) ok.thaw (zbx_ (G:=F) ok _ (.inl rfl) fin fun a F' H' hr x=>?_)
  obtain ⟨o,hs,ht⟩:=ok.back x
  rw [hr] at fin
  cases a with
  | false=>rw [if_neg (by decide)]; exact fin σ _ h H' (hL.mono hs) o
  | true =>
   rw [if_pos rfl]
   refine ⟨fun σ' H''=>∃ s F h,Hold (LS s) σ' F h∧Okk F0 H0 F h H''∧Fin K (whileO (B:=B) c step m s) E LS LB O F0 H0 D,fun σ' H'' z=>⟨m,Nat.lt_succ_self _,z⟩,?_⟩
   refine hb s F0 H0 σ _ h H' _ (hL.mono hs) o ?_
   have fin':Fin K ((step s).bind fun o=>match o with | .nx s'=>whileO (B:=B) c step m s' | .ct s'=>whileO c step m s' | .bk s'=>.ok (.nx s') | .rt a=>.ok (.rt a)) E LS LB O F0 H0 D:=fin
   cases e:step s with
   | no=>rw [e] at fin'; exact fin'
   | ex c=>rw [e] at fin'; exact fin'
   | ok o =>
    rw [e] at fin'
    cases o with
    | nx s'=>exact fun σ' F' h' H' hL' ok'=>⟨s',F',h',hL',ok',fin'⟩
    | ct s'=>exact fun σ' F' h' H' hL' ok'=>⟨s',F',h',hL',ok',fin'⟩
    | bk s'=>exact fin'
    | rt a=>exact fin'
theorem zd6_ {i:Nat}{σ:St}{xs:List α}(hL:Hold L σ F h) (hi:L[i]?=some (.ow (owL T) xs)) (ok:Okk F0 H0 F h H) :
  ∃ p vs,σ[i]?=some (some (.ref p))∧H p=some (.lst vs)∧Prs T F xs vs∧∀ xs' vs',Prs T F xs' vs'→∃ h',Hold (L.set i (.ow (owL T) xs')) σ F h'∧Okk F0 H0 F h' (upd H p (.lst vs')):=by
 obtain ⟨o,h1,h2,e1,j,⟨v,e2,p,vs,rfl,rfl,hr⟩,f⟩:=hL.at i hi
 subst e2
 obtain ⟨o1,o2,o3,o4,o5⟩:=ok
 have hp:h p=some (.lst vs):=j.l _ _ zcu_
 have h2p:h2 p=none:=by
  rcases j.dj p with z | z
  ·rw [zcu_] at z; cases z
  ·exact z
 have Fp:F p=none:=by
  rcases o2 p with z | z
  ·exact z
  ·rw [hp] at z; cases z
 have H0p:H0 p=none:=o4 p (by rw [hp]; exact Option.some_ne_none _)
 refine ⟨p,vs,e1,o3 _ _ hp,hr,fun xs' vs' hr'=>?_⟩
 have d2:Dj (one p (.lst vs')) h2:=fun q=>by
  unfold one; split
  ·rename_i z; rw [z]; exact .inr h2p
  ·exact .inl rfl
 have g:=f (.ow (owL T) xs') (some (.ref p)) (one p (.lst vs')) _ (zlC_ d2) ⟨_,rfl,p,vs',rfl,rfl,hr'⟩
 rw [zcZ_ e1] at g
 refine ⟨_,g,⟨o1.1,fun q o z=>?_,fun q o z=>?_,o1.2.2.2⟩,fun q=>?_,fun q o z=>?_,fun q z=>?_,fun q ys z=>?_⟩
 ·unfold upd; split
  ·rename_i w; rw [w,Fp] at z; cases z
  ·exact o1.2.1 _ _ z
 ·unfold upd; split
  ·rename_i w; rw [w,H0p] at z; cases z
  ·exact o1.2.2.1 _ _ z
 ·by_cases w:q=p
  ·rw [w]; exact .inl Fp
  ·unfold un one; simp only [if_neg w]
   rcases o2 q with z | z
   ·exact .inl z
   ·exact .inr (j.r.free z)
 ·unfold un one at z
  unfold upd
  by_cases w:q=p
  ·rw [if_pos w]; simp only [if_pos w] at z; exact z
  ·rw [if_neg w]; simp only [if_neg w] at z; exact o3 _ _ (j.r _ _ z)
 ·unfold un one at z
  by_cases w:q=p
  ·rw [w]; exact H0p
  ·simp only [if_neg w] at z
   cases y:h2 q with
   | none=>exact absurd y z
   | some u=>exact o4 q (by rw [j.r _ _ y]; exact Option.some_ne_none _)
 ·unfold un one at z
  by_cases w:q=p
  ·simp only [if_pos w] at z; cases z
  ·simp only [if_neg w] at z; exact o5 q ys (j.r _ _ z)
theorem zeQ_ {i:Nat}{σ:St}{v:V}{Q:VK}(e:σ[i]?=some (some v)) (q:Q v H):mVar i σ H Q:=by unfold mVar; rw [e]; exact q
theorem zeA_ {n:Nat}{r:Mo (Out ρ B S)}{D:Ends}(h:Fin K (Mo.lim n r) E LS LB O F0 H0 D):n≤sizeLine∧Fin K r E LS LB O F0 H0 D:=by
 unfold Mo.lim at h
 split at h
 ·exact ⟨by assumption,h⟩
 ·exact h.elim
theorem zfl_ {i:Nat}{xs:List α}{k:α→Mo (Out ρ B S)}(hi:L[i]?=some (.ow (owL T) xs)) (hT:Imm T) (he:EvF K e E L r T) (hk:∀ a,EvS K u E (L.set i (.ow (owL T) (xs++[a]))) (k a) LS LB O) :
  EvS K (tSeq (tDrop (tBM K "list" rAppend (mVar i) (tCons e tNil))) u) E L (r.bind fun a=>.lim (xs.length+1) (k a)) LS LB O:=by
 intro F0 H0 σ F h H D hL ok fin
 obtain ⟨p,vs,e1,hp,hr,_⟩:=zd6_ hL hi ok
 show mVar i σ H fun x H1=>tyV K "list" x H1∧tCons e tNil σ H1 fun xs H2=>rAppend x xs H2 (fun _ H3=>u D σ H3)
 refine zeQ_ e1 ⟨.inl ⟨rfl,vs,.of hp⟩,?_⟩
 refine he σ (un F h) H _ (hL.froz ok.2.1) ok.thaw (zbx_ (G:=F) ok _ (.inl rfl) fin fun a F' H' hra x v hv=>?_)
 obtain ⟨o,hs,ht⟩:=ok.back x
 rw [hra] at fin
 obtain ⟨hz,fin⟩:=zeA_ (show Fin K (Mo.lim (xs.length+1) (k a)) E LS LB O F0 H0 D from fin)
 obtain ⟨p',vs',e1',hp',hr',mm⟩:=zd6_ (hL.mono hs) hi o
 rw [e1] at e1'; cases e1'
 obtain ⟨h',a1,a2⟩:=mm (xs++[a]) (vs'++[v]) (hr'.append (.cons (hT ht hv) .nil))
 exact ⟨p,vs',v,rfl,rfl,hp',by rw [← hr'.len]; lia,hk a F0 H0 σ _ h' _ D a1 a2 fin⟩
noncomputable def fnO (r:Mo (Out ρ Unit Unit)):Mo ρ:=r.bind fun o=>match o with | .rt a=>.ok a | _=>.no
inductive Args (F:Hp):List V→List Sl→Prop
 | nil:Args F [] []
 | cons {α:Type}{T:Ty α}{a:α}{v:V}{vs ss} (h:T.R a v F) (t:Args F vs ss):Args F (v::vs) (.fz T a::ss)
theorem Args.hold {vs:List V}{ss:List Sl}(a:Args F vs ss) (n:Nat):Hold (ss++List.replicate n .dead) (vs.map some++List.replicate n none) F (fun _=>none):=by
 induction a with
 | nil =>
  induction n with
  | zero=>trivial
  | succ n ih=>exact ⟨fun _=>none,fun _=>none,fun p=>.inl ⟨rfl,rfl⟩,trivial,ih⟩
 | cons hv t ih=>exact ⟨fun _=>none,fun _=>none,fun p=>.inl ⟨rfl,rfl⟩,⟨_,rfl,hv⟩,ih⟩
noncomputable def CsS (C:Cs γ) (ss:γ→List Sl):Prop:=∀ {c vs F},C.R c vs F→Args F vs (ss c)
theorem zac_:CsS (csLast T) fun a=>[.fz T a]:=fun ⟨v,e,h⟩=>by rw [e]; exact .cons h .nil
theorem zX_ {C:Cs γ}{ss:γ→List Sl}(h:CsS C ss):CsS (csCons T C) fun c=>.fz T c.1::ss c.2:=fun ⟨v,us,e,q,z⟩=>by rw [e]; exact .cons q (h z)
theorem zip_ (hs:Same F H):Okk F H F (fun _=>none) H:=by
 refine ⟨.refl hs,fun p=>.inr rfl,fun p o e=>?_,fun p e=>absurd rfl e,fun p xs e=>?_⟩
 ·cases e
 ·cases e
theorem zel_ {t:XK→TS}{C:Cs γ}{ss:γ→List Sl}{f:γ→Mo (Out ρ Unit Unit)}{N:List Str}(n m:Nat) (hn:CsN C n) (hm:N.length-n=m) (hC:CsS C ss) (h:∀ c E,EvS K (t E) E (ss c++List.replicate m .dead) (f c) (fun _:Unit=>[]) (fun _:Unit=>[]) O) :
  ∀ vs H Q E,Ct K C (fun c=>fnO (f c)) O vs H Q E→t E { nx:=fun _ H'=>Q .non H',rt:=Q } (start N vs) H:=by
 rintro vs H Q E ⟨F,c,hs,hc,q⟩
 have hstart:start N vs=vs.map some++List.replicate m none:=by unfold start; rw [hn hc,hm]
 rw [hstart]
 refine h c E F H _ F (fun _=>none) H _ ((hC hc).hold m) (zip_ hs) ?_
 have q:After K (fnO (f c)) E F H (OwnK O H Q):=q
 cases e:f c with
 | no=>rw [e] at q; exact q
 | ex cc=>rw [e] at q; exact fun F h H ok=>q F H ok.1
 | ok o =>
  rw [e] at q
  cases o with
  | nx s=>exact q.elim
  | bk s=>exact q.elim
  | ct s=>exact q.elim
  | rt a=>exact fun v F' h' H' ok hv=>q F' H' ok.1 v h' (fun p z=>ok.2.2.2.1 p z) ok.2.1 ok.2.2.1 hv
end
end L2
namespace L2
open PySem PySem.Spec PyProof.Rows
section
variable {K:Fgg}{E:XK}{α β γ ρ S S' B B':Type}{F0 H0 F h H:Hp}{L L':List Sl}{e e1 e2:TE}{T:Ty α}{r:Mo α}{O:Own ρ}{t u:TS}{LS:S→List Sl}{LS':S'→List Sl}{LB:B→List Sl}
noncomputable def CDivG (i j:Int):Prop:=0<j∧Builtin.divisionGoesByPylong i j=false
instance (i j:Int):Decidable (CDivG i j):=inferInstanceAs (Decidable (_∧_))
instance (i j:Int):Decidable (IntMulOk i j):=inferInstanceAs (Decidable (¬ _))
noncomputable abbrev mMulG:R2:=mI IntMulOk fun i j=>.int (i*j)
noncomputable abbrev mDivG:R2:=mI CDivG fun i j=>.int (i / j)
theorem zle_ {X:Cx}:OpR X (binaryOp .Mult) mMulG:=opM (opI fun _ _ _ _ _ _ _ hc q=>mul_int q hc)
theorem zeK_ {X:Cx}:OpR X (binaryOp .FloorDiv) mDivG:=opM (opI fun i j _ _ _ _ _ hc q=>by
 have h1:(0:Int)<j:=hc.1
 exact floordiv_int (by lia) (by rw [Int.fdiv_eq_ediv_of_nonneg i (by lia)]; exact q) (.inl hc.2))
theorem zcR_:Op2 K mDivG E tyInt tyInt (fun i j=>.grd (CDivG i j) (.ok (i / j))) tyInt:=op_i fun _ _ _=>rfl
theorem zjL_ {Pq:α→Prop}:∀ q∈([]:List α),Pq q:=fun q h=>by cases h
theorem zfB_ {Pq:α→Prop}{a:α}{l:List α}(h:Pq a) (t:∀ q∈l,Pq q):∀ q∈a::l,Pq q:=List.forall_mem_cons.mpr ⟨h,t⟩
theorem zcJ_ {r:Mo (Out ρ B S)}(w:Sub L L') (hk:EvS K t E L' r LS LB O):EvS K t E L r LS LB O:=fun F0 H0 σ F h H D hL ok fin=>hk F0 H0 σ F h H D (w.hold hL) ok fin
theorem at_ {r:Mo (Out ρ B S)}(L:List Sl) (hk:EvS K t E L r LS LB O):EvS K t E L r LS LB O:=hk
theorem zdN_ (i:Nat) {xs:List α}(h:L[i]?=some (.ow (owL T) xs)):EvF K (mVar i) E L (.ok xs) (tyL T):=ziT_ i h
theorem zks_:EvT K tTrue E L (.ok true):=fun σ F H Q hL hs q=>q.ok hs
theorem dead1 {L:List Sl}:DeadAt (.dead::L) [0]:=fun i hi s e=>by
 cases (List.mem_singleton.mp hi); cases e; rfl
theorem zk7_ {a:List Nat}{v:V}{F:Hp}(h:tyStr.R a v F):v≠.non:=by cases h; exact fun z=>V.noConfusion z
theorem nn_l {a:List α}{v:V}{F:Hp}(h:(tyL T).R a v F):v≠.non:=by obtain ⟨p,vs,rfl,_⟩:=h; exact fun z=>V.noConfusion z
theorem zlh_ {C:Cs γ}{a:γ}{v:V}{F:Hp}(h:(tyTup C).R a v F):v≠.non:=by obtain ⟨p,vs,rfl,_⟩:=h; exact fun z=>V.noConfusion z
noncomputable def insL (xs:List α) (j:Int) (a:α):List α:=xs.take j.toNat++a::xs.drop j.toNat
theorem zkx_ {p:Prop} [Decidable p] {r:Mo (Out ρ B S)}{D:Ends}(h:Fin K (Mo.grd p r) E LS LB O F0 H0 D):p∧Fin K r E LS LB O F0 H0 D:=by
 unfold Mo.grd at h
 split at h
 ·exact ⟨by assumption,h⟩
 ·exact h.elim
theorem zkW_ {xs:List α}{vs:List V}(q:Prs T H xs vs) (n:Nat) {a:α}{v:V}(hv:T.R a v H):Prs T H (xs.take n++a::xs.drop n) (vs.take n++v::vs.drop n):=(q.take n).append (.cons hv (q.drop n))
theorem zjt_ {i:Nat}{xs:List α}{ei:TE}{ri:Mo Int}{k:Int→α→Mo (Out ρ B S)}(hi:L[i]?=some (.ow (owL T) xs)) (hT:Imm T) (hei:EvF K ei E L ri tyInt) (he:EvF K e E L r T) (hk:∀ j a,EvS K u E (L.set i (.ow (owL T) (insL xs j a))) (k j a) LS LB O) :
  EvS K (tSeq (tDrop (tBM K "list" mInsert (mVar i) (tCons ei (tCons e tNil)))) u) E L (ri.bind fun j=>r.bind fun a=>.grd (0≤j∧j≤xs.length) (.lim (xs.length+1) (k j a))) LS LB O:=by
 intro F0 H0 σ F h H D hL ok fin
 obtain ⟨p,vs,e1,hp,hr,_⟩:=zd6_ hL hi ok
 show mVar i σ H fun x H1=>tyV K "list" x H1∧tCons ei (tCons e tNil) σ H1 fun xs H2=>mInsert x xs H2 (fun _ H3=>u D σ H3)
 refine zeQ_ e1 ⟨.inl ⟨rfl,vs,.of hp⟩,?_⟩
 refine hei σ (un F h) H _ (hL.froz ok.2.1) ok.thaw (zbx_ (G:=F) ok _ (.inl rfl) fin fun j F1 H1 hrj x1 v1 hv1=>?_)
 cases hv1
 obtain ⟨o,hs,ht⟩:=ok.back x1
 rw [hrj] at fin
 have hL':=hL.mono hs
 refine he σ (un _ h) H1 _ (hL'.froz o.2.1) o.thaw (zbx_ (G:=F) o _ (.inl rfl) fin fun a F2 H2 hra x2 v hv=>?_)
 obtain ⟨o',hs',ht'⟩:=o.back x2
 rw [hra] at fin
 obtain ⟨hj,fin⟩:=zkx_ (show Fin K (Mo.grd (0≤j∧j≤xs.length) (Mo.lim (xs.length+1) (k j a))) E LS LB O F0 H0 D from fin)
 obtain ⟨hz,fin⟩:=zeA_ fin
 obtain ⟨p',vs',e1',hp',hr',mm⟩:=zd6_ (hL'.mono hs') hi o'
 rw [e1] at e1'; cases e1'
 obtain ⟨h',a1,a2⟩:=mm (insL xs j a) (vs'.take j.toNat++v::vs'.drop j.toNat) (zkW_ hr' _ (hT ht' hv))
 have hl:=hr'.len
 have hm:min j.toNat vs'.length=j.toNat:=by lia
 refine ⟨vs',hp',by lia,⟨hj.1,by rw [sizeLine_eq] at hz; lia⟩,?_⟩
 rw [hm]
 exact hk j a F0 H0 σ _ h' _ D a1 a2 fin
end
end L2
namespace L2
open PySem PySem.Spec PyProof.Rows
section
variable {α β γ ρ S S' B:Type}
@[simp] theorem Mo.okB (a:α) (f:α→Mo β):(Mo.ok a).bind f=f a:=of_eq_true (eq_self _)
@[simp] theorem Mo.exB (c:String) (f:α→Mo β):(Mo.ex c:Mo α).bind f=.ex c:=of_eq_true (eq_self _)
@[simp] theorem Mo.noB (f:α→Mo β):(Mo.no:Mo α).bind f=.no:=of_eq_true (eq_self _)
@[simp] theorem Mo.noexO (a:α):(Mo.ok a).noex=.ok a:=of_eq_true (eq_self _)
@[simp] theorem Mo.optS (a:α):Mo.opt (some a)=.ok a:=of_eq_true (eq_self _)
@[simp] theorem zjW_ (s:S) (k:S→Mo (Out ρ B S')):thenO (.ok (.nx s)) k=k s:=of_eq_true (eq_self _)
@[simp] theorem zjy_ (a:ρ) (k:S→Mo (Out ρ B S')):thenO (.ok (.rt a)) k=.ok (.rt a):=of_eq_true (eq_self _)
@[simp] theorem zjQ_ (b:B) (k:S→Mo (Out ρ B S')):thenO (.ok (.bk b)) k=.ok (.bk b):=of_eq_true (eq_self _)
@[simp] theorem zjc_ (b:B) (k:S→Mo (Out ρ B S')):thenO (.ok (.ct b)) k=.ok (.ct b):=of_eq_true (eq_self _)
@[simp] theorem zl6_ (a:ρ):fnO (.ok (.rt a))=.ok a:=of_eq_true (eq_self _)
@[simp] theorem zj1_ (step:S→α→Mo (Out ρ S S)) (s:S):forO (B:=B) step [] s=.ok (.nx s):=of_eq_true (eq_self _)
theorem zfL_ (step:S→α→Mo (Out ρ S S)) (x:α) (xs:List α) (s:S):forO (B:=B) step (x::xs) s=(step s x).bind fun o=>match o with | .nx s'=>forO step xs s' | .ct s'=>forO step xs s' | .bk s'=>.ok (.nx s') | .rt a=>.ok (.rt a):=rfl
theorem zgC_ {step:S→α→Mo (Out ρ S S)}{x:α}{xs:List α}{s s':S}(h:step s x=.ok (.nx s')):forO (B:=B) step (x::xs) s=forO step xs s':=by rw [zfL_,h]; rfl
theorem zji_ {step:S→α→Mo (Out ρ S S)}{x:α}{xs:List α}{s:S}{a:ρ}(h:step s x=.ok (.rt a)):forO (B:=B) step (x::xs) s=.ok (.rt a):=by rw [zfL_,h]; rfl
theorem zgA_ {step:S→α→Mo (Out ρ S S)}(P:List α→S→Prop):∀ {xs:List α}(done:List α) {s:S},P done s→(∀ d x s,(∃ r,done++xs=d++x::r)→P d s→∃ s',step s x=.ok (.nx s')∧P (d++[x]) s')→∃ s',forO (B:=B) step xs s=.ok (.nx s')∧P (done++xs) s'
 | [],done,s,h0,_=>⟨s,rfl,by rw [List.append_nil]; exact h0⟩
 | x::xs,done,s,h0,h=>by
  obtain ⟨s1,e1,p1⟩:=h done x s ⟨xs,rfl⟩ h0
  obtain ⟨s2,e2,p2⟩:=zgA_ P (xs:=xs) (done++[x]) p1 fun d y s ⟨r,hr⟩ hp=>h d y s ⟨r,by rw [← hr]; simp⟩ hp
  exact ⟨s2,by rw [zgC_ e1,e2],by simpa using p2⟩
theorem zhH_ {step:Unit→α→Mo (Out ρ Unit Unit)}:∀ {xs:List α},(∀ x∈xs,step () x=.ok (.nx ()))→forO (B:=B) step xs ()=.ok (.nx ())
 | [],_=>rfl
 | x::xs,h=>by rw [zgC_ (h x List.mem_cons_self),zhH_ fun y hy=>h y (List.mem_cons_of_mem _ hy)]
theorem zfW_ {step:Unit→α→Mo (Out ρ Unit Unit)}{p:α→Bool}{a:α→ρ}:∀ {xs:List α},(∀ x∈xs,step () x=if p x then .ok (.rt (a x)) else .ok (.nx ()))→forO (B:=B) step xs ()=match xs.find? p with | some x=>.ok (.rt (a x)) | none=>.ok (.nx ())
 | [],_=>rfl
 | x::xs,h=>by
  have h1:=h x List.mem_cons_self
  rw [List.find?_cons]
  cases e:p x with
  | true=>rw [e,if_pos rfl] at h1; rw [zji_ h1]
  | false=>rw [e,if_neg (by decide)] at h1; rw [zgC_ h1,zfW_ fun y hy=>h y (List.mem_cons_of_mem _ hy)]
open PySem PySem.Spec PyProof.Rows in
theorem zk8_ {a j:Int}(h0:0<j) (h:j.natAbs.log2<9000):CDivG a j:=by
 refine ⟨h0,?_⟩
 unfold Builtin.divisionGoesByPylong
 simp only
 rw [Bool.and_eq_false_iff]
 left
 rw [decide_eq_false_iff_not]
 split<;>lia
theorem log2_lt {n k:Nat}(h:n<2 ^ k):n.log2<k∨n=0:=by
 by_cases hz:n=0
 ·exact .inr hz
 ·exact .inl ((Nat.log2_lt hz).mpr h)
theorem zk0_ {a j:Int}(h0:0<j) (h:j<2 ^ 1000):CDivG a j:=by
 refine zk8_ h0 ?_
 have h1:j.natAbs<2 ^ 1000:=by
  have:((2:Int) ^ 1000)=((2 ^ 1000:Nat):Int):=by rw [Int.natCast_pow]; rfl
  rw [this] at h
  lia
 rcases log2_lt h1 with h | h
 ·lia
 ·rw [h]; decide
open PySem PySem.Spec PyProof.Rows in
theorem zeF_ {i j:Int}(h : -(2 ^ 64)<i∧i<2 ^ 64 ∨ -(2 ^ 64)<j∧j<2 ^ 64):IntMulOk i j:=CMul.ok h
@[simp] theorem zk4_ {a j:Int}{k:Mo α}(h0:0<j) (h1:j<1073741824):Mo.grd (CDivG a j) k=k:=Mo.grd_ok (zk0_ h0 (by lia))
@[simp] theorem grd_T {k:Mo α} [Decidable True]:Mo.grd True k=k:=Mo.grd_ok trivial
@[simp] theorem zhq_ {j:Int}{k:Mo α}(h0:0<j):Mo.grd (0<j) k=k:=Mo.grd_ok h0
open PySem PySem.Spec PyProof.Rows in
@[simp] theorem zjd_ {i j:Int}{k:Mo α}(h0 : -18446744073709551616<i) (h1:i<18446744073709551616):Mo.grd (IntMulOk i j) k=k:=Mo.grd_ok (zeF_ (.inl ⟨by lia,by lia⟩))
theorem zee_ (lo:Int) (n:Nat):(rngI lo n).length=n:=by unfold rngI; rw [List.length_map,List.length_range]
theorem ze2_ {lo x:Int}{n:Nat}:x∈rngI lo n↔lo≤x∧x<lo+n:=by
 unfold rngI
 simp only [List.mem_map,List.mem_range]
 constructor
 ·rintro ⟨a,h,rfl⟩; lia
 ·rintro ⟨h1,h2⟩; exact ⟨(x-lo).toNat,by lia,by lia⟩
theorem zgg_ {xs:List α}{k:Int}(h0:0≤k):atI xs k=xs[k.toNat]?:=by
 unfold atI ixN
 rw [if_pos h0]
 split
 ·rfl
 ·rename_i h
  rw [List.getElem?_eq_none (by lia)]; rfl
theorem zb6_ {xs:List α}{k:Int}(h0:0≤k) (h1:k<xs.length):∃ x,atI xs k=some x∧x∈xs:=by
 rw [zgg_ h0,List.getElem?_eq_getElem (show k.toNat<xs.length by lia)]
 exact ⟨_,rfl,List.getElem_mem _⟩
theorem zkk_ {xs:List α}(k:Int) (h:xs≠[]):∃ x,atI xs (k % (xs.length:Int))=some x∧x∈xs:=by
 have:0<xs.length:=List.length_pos_iff.mpr h
 exact zb6_ (Int.emod_nonneg _ (by lia)) (Int.emod_lt_of_pos _ (by lia))
theorem zeV_ {q:α→α→Bool}(hq:∀ a,q a a=true):∀ xs:List α,eqL q xs xs=true
 | []=>rfl
 | x::xs=>by unfold eqL; rw [hq,zeV_ hq xs]; rfl
theorem zg8_ (xs:List α) (lo hi:Option Int):(cutG xs lo hi).length≤xs.length:=by
 unfold cutG; rw [List.length_take,List.length_drop]; lia
theorem zjS_ {xs:List α}{lo hi:Option Int}{x:α}(h:x∈cutG xs lo hi):x∈xs:=List.mem_of_mem_drop (List.mem_of_mem_take h)
end
end L2
namespace L2
open PySem PySem.Spec PyProof.Rows
section
variable {K:Fgg}{E:XK}{α β γ ρ S S' B B':Type}{F0 H0 F h H:Hp}{L L':List Sl}{e e1 e2:TE}{T:Ty α}{r:Mo α}{O:Own ρ}{t u:TS}{LS:S→List Sl}{LS':S'→List Sl}{LB:B→List Sl}
theorem zkU_ {p:Addr}{o':HO}{h1' hr h':Hp}(ok:Okk F0 H0 F h H) (hp:h p≠none) (nt:∀ xs,o'≠.tup xs) (h':Hp) (hh:∀ q,h' q=if q=p then some o' else h q):Okk F0 H0 F h' (upd H p o'):=by
 obtain ⟨o1,o2,o3,o4,o5⟩:=ok
 have Fp:F p=none:=by
  rcases o2 p with z | z
  ·exact z
  ·exact absurd z hp
 have H0p:H0 p=none:=o4 p hp
 refine ⟨⟨o1.1,fun q o z=>?_,fun q o z=>?_,o1.2.2.2⟩,fun q=>?_,fun q o z=>?_,fun q z=>?_,fun q ys z=>?_⟩
 ·unfold upd; split
  ·rename_i w; rw [w,Fp] at z; cases z
  ·exact o1.2.1 _ _ z
 ·unfold upd; split
  ·rename_i w; rw [w,H0p] at z; cases z
  ·exact o1.2.2.1 _ _ z
 ·rw [hh]; split
  ·rename_i w; rw [w]; exact .inl Fp
  ·exact o2 q
 ·rw [hh] at z; unfold upd
  split at z
  ·rename_i w; rw [if_pos w]; exact z
  ·rename_i w; rw [if_neg w]; exact o3 _ _ z
 ·rw [hh] at z; split at z
  ·rename_i w; rw [w]; exact H0p
  ·exact o4 q z
 ·rw [hh] at z; split at z
  ·exact nt ys (by injection z)
  ·exact o5 q ys z
end
end L2
namespace L2
open PySem PySem.Spec PyProof.Rows
section
variable {K:Fgg}{E:XK}{α β γ ρ S S' B B':Type}{F0 H0 F h H:Hp}{L L':List Sl}{e e1 e2:TE}{T:Ty α}{r:Mo α}{O:Own ρ}{t u:TS}{LS:S→List Sl}{LS':S'→List Sl}{LB:B→List Sl}
@[irreducible] def fuelW:Nat:=100000
theorem zgJ_:fuelW=100000:=by unfold fuelW; rfl
noncomputable def mLtS:R2:=fun x y H Q=>match x,y with
 | .int i,.int j=>Q (.bl (decide (i<j))) H
 | .str i,.str j=>Q (.bl (decide (i.cps.toList<j.cps.toList))) H
 | _,_=>False
theorem zkn_ {X:Cx}:OpR X (compareOp .Lt) mLtS:=by
 intro pins s σ H x y v u Q I rx ry h
 cases x<;>cases y<;>first
  | exact h.elim
  | exact op_lt pins s σ H _ _ v u Q I rx ry ⟨_,_,rfl,rfl,h⟩
  | exact ziq_ pins s σ H _ _ v u Q I rx ry ⟨_,_,rfl,rfl,h⟩
end
end L2
namespace L2
open PySem PySem.Spec PyProof.Rows
section
variable {α:Type}
theorem zbT_ {S B ρ:Type}{step:S→α→Mo (Out ρ S S)}{xs:List α}{s:S}{G:Mo (Out ρ B S)→Prop}(P:List α→S→Prop) (h0:P [] s) (hs:∀ d x s,(∃ r,xs=d++x::r)→P d s→∃ s',step s x=.ok (.nx s')∧P (d++[x]) s') (hk:∀ s',P xs s'→G (.ok (.nx s'))):G (forO step xs s):=by
 obtain ⟨s',e,p⟩:=zgA_ (B:=B) P (xs:=xs) [] h0 (fun d x s hr hp=>hs d x s hr hp)
 rw [e]
 exact hk s' p
theorem zdQ_ {ρ B:Type}{c:Int→Mo Bool}{step:Int→Mo (Out ρ Int Int)}{f:Nat→Nat}(p:Nat→Bool):∀ (m n:Nat),n<m→(∀ i,0<i→i≤n→c (i:Nat)=.ok (p i)∧step (i:Nat)=.ok (.nx ((i:Int)-1)))→c ((0:Nat):Int)=.ok false→(∀ i,i<n→f (i+1)=if p (i+1) then f i else i+1)→f 0=0→whileO (B:=B) c step m (n:Nat)=.ok (.nx ((f n:Nat):Int))
 | 0,n,h,_,_,_,_=>absurd h (Nat.not_lt_zero _)
 | m+1,0,_,_,h0,_,f0=>by unfold whileO; rw [h0,Mo.okB,if_neg (by decide),f0]
 | m+1,n+1,hn,hs,h0,hf,f0=>by
  unfold whileO
  obtain ⟨h1,h2⟩:=hs (n+1) (by lia) (Nat.le_refl _)
  rw [h1,Mo.okB,hf n (by lia)]
  cases p (n+1) with
  | false=>rfl
  | true =>
   rw [if_pos rfl,if_pos rfl,h2,Mo.okB]
   have e:((n+1:Nat):Int)-1=(n:Nat):=by lia
   rw [e]
   exact zdQ_ p m n (by lia) (fun i h h'=>hs i h (by lia)) h0 (fun i h=>hf i (by lia)) f0
noncomputable def insK (k:α→Nat) (x:α) (ys:List α):List α:=ys.filter (fun y=>decide (k y≤k x))++x::ys.filter (fun y=>decide (k x<k y))
noncomputable def sK (k:α→Nat) (xs:List α):List α:=xs.foldl (fun acc x=>insK k x acc) []
noncomputable def Srt (k:α→Nat) (ys:List α):Prop:=ys.Pairwise fun a b=>k a≤k b
theorem zbL_ (k:α→Nat) (xs:List α) (x:α):sK k (xs++[x])=insK k x (sK k xs):=by unfold sK; rw [List.foldl_append]; rfl
theorem zaU_ {P:List α→Prop}(h0:P []) (hs:∀ xs x,P xs→P (xs++[x])) (xs:List α):P xs:=by
 have:∀ n (xs:List α),xs.length=n→P xs:=by
  intro n
  induction n with
  | zero=>intro xs e; rw [List.length_eq_zero_iff.mp e]; exact h0
  | succ n ih =>
   intro xs e
   have hne:xs≠[]:=fun z=>by rw [z] at e; cases e
   rw [← List.dropLast_concat_getLast hne]
   exact hs _ _ (ih _ (by rw [List.length_dropLast,e]; rfl))
 exact this _ xs rfl
theorem zcP_ {k:α→Nat}{ys:List α}(h:Srt k ys) (m:Nat):ys=ys.filter (fun y=>decide (k y≤m))++ys.filter (fun y=>decide (m<k y)):=by
 induction ys with
 | nil=>rfl
 | cons y ys ih =>
  obtain ⟨h1,h2⟩:=List.pairwise_cons.mp h
  by_cases hy:k y≤m
  ·rw [List.filter_cons_of_pos (by simpa using hy),List.filter_cons_of_neg (by simpa using hy),List.cons_append,← ih h2]
  ·have e:(y::ys).filter (fun y=>decide (k y≤m))=[]:=by
    rw [List.filter_eq_nil_iff]
    intro z hz
    rcases List.mem_cons.mp hz with rfl | hz
    ·simpa using hy
    ·have:=h1 z hz; simp; lia
   have e2:(y::ys).filter (fun y=>decide (m<k y))=y::ys:=by
    rw [List.filter_eq_self]
    intro z hz
    rcases List.mem_cons.mp hz with rfl | hz
    ·simp; lia
    ·have:=h1 z hz; simp; lia
   rw [e,e2,List.nil_append]
theorem zkI_ {k:α→Nat}{ys:List α}(h:Srt k ys) (x:α):Srt k (insK k x ys):=by
 unfold insK Srt
 rw [List.pairwise_append]
 refine ⟨List.Pairwise.filter _ h,?_,?_⟩
 ·rw [List.pairwise_cons]
  refine ⟨fun a ha=>?_,List.Pairwise.filter _ h⟩
  have:=(List.mem_filter.mp ha).2
  simp at this; lia
 ·intro a ha b hb
  have h1:=(List.mem_filter.mp ha).2
  simp at h1
  rcases List.mem_cons.mp hb with rfl | hb
  ·exact h1
  ·have h2:=(List.mem_filter.mp hb).2
   simp at h2; lia
theorem zh9_ (k:α→Nat) (xs:List α):Srt k (sK k xs):=by
 induction xs using zaU_ with
 | h0=>exact List.Pairwise.nil
 | hs xs x ih=>rw [zbL_]; exact zkI_ ih x
theorem zjV_ {k:α→Nat}{x y:α}{ys:List α}:y∈insK k x ys↔y=x∨y∈ys:=by
 unfold insK
 simp only [List.mem_append,List.mem_cons,List.mem_filter,decide_eq_true_eq]
 constructor
 ·rintro (h | h | h)
  ·exact .inr h.1
  ·exact .inl h
  ·exact .inr h.1
 ·rintro (h | h)
  ·exact .inr (.inl h)
  ·by_cases z:k y≤k x
   ·exact .inl ⟨h,z⟩
   ·exact .inr (.inr ⟨h,by lia⟩)
theorem zgT_ {k:α→Nat}{y:α}(xs:List α):y∈sK k xs↔y∈xs:=by
 induction xs using zaU_ with
 | h0=>rfl
 | hs xs x ih=>rw [zbL_,zjV_,ih,List.mem_append,List.mem_singleton]; exact or_comm
theorem zjP_ (k:α→Nat) (x:α) (ys:List α):(insK k x ys).length=ys.length+1:=by
 unfold insK
 rw [List.length_append,List.length_cons]
 induction ys with
 | nil=>rfl
 | cons y ys ih =>
  by_cases hy:k y≤k x
  ·rw [List.filter_cons_of_pos (by simpa using hy),List.filter_cons_of_neg (by simpa using hy)]; simp only [List.length_cons]; lia
  ·rw [List.filter_cons_of_neg (by simpa using hy),List.filter_cons_of_pos (by simp; lia)]; simp only [List.length_cons]; lia
theorem zkG_ (k:α→Nat) (xs:List α):(sK k xs).length=xs.length:=by
 induction xs using zaU_ with
 | h0=>rfl
 | hs xs x ih=>rw [zbL_,zjP_,ih,List.length_append,List.length_singleton]
theorem sK_id {k:α→Nat}{ys:List α}(h:Srt k ys):sK k ys=ys:=by
 induction ys using zaU_ with
 | h0=>rfl
 | hs xs x ih =>
  obtain ⟨h1,_,h3⟩:=List.pairwise_append.mp h
  rw [zbL_,ih h1]
  unfold insK
  have e1:xs.filter (fun y=>decide (k y≤k x))=xs:=by
   rw [List.filter_eq_self]; intro y hy; simpa using h3 y hy x (List.mem_singleton.mpr rfl)
  have e2:xs.filter (fun y=>decide (k x<k y))=[]:=by
   rw [List.filter_eq_nil_iff]; intro y hy; have:=h3 y hy x (List.mem_singleton.mpr rfl); simp; lia
  rw [e1,e2]
theorem zg2_ {k k':α→Nat}:∀ (xs:List α),(∀ a∈xs,∀ b∈xs,(k a≤k b↔k' a≤k' b))→sK k xs=sK k' xs:=by
 intro xs
 induction xs using zaU_ with
 | h0=>intro _; rfl
 | hs xs x ih =>
  intro h
  rw [zbL_,zbL_,ih fun a ha b hb=>h a (List.mem_append_left _ ha) b (List.mem_append_left _ hb)]
  unfold insK
  have hx:x∈xs++[x]:=List.mem_append_right _ (List.mem_singleton.mpr rfl)
  have e1:(sK k' xs).filter (fun y=>decide (k y≤k x))=(sK k' xs).filter (fun y=>decide (k' y≤k' x)):=by
   refine List.filter_congr fun y hy=>?_
   rw [zgT_] at hy
   exact decide_eq_decide.mpr (h y (List.mem_append_left _ hy) x hx)
  have e2:(sK k' xs).filter (fun y=>decide (k x<k y))=(sK k' xs).filter (fun y=>decide (k' x<k' y)):=by
   refine List.filter_congr fun y hy=>?_
   rw [zgT_] at hy
   have:=h y (List.mem_append_left _ hy) x hx
   exact decide_eq_decide.mpr (by lia)
  rw [e1,e2]
theorem zi5_ (xs:List α):sK (fun _=>0) xs=xs:=sK_id (List.pairwise_of_forall fun _ _=>Nat.le_refl _)
noncomputable def dealR (r:α→Nat) (n:Nat) (ys:List α):List α:=(List.range n).flatMap fun i=>ys.filter fun y=>decide (r y=i)
theorem zga_ {n i:Nat}(h:i<n):List.range n=List.range i++i::(List.range (n-i-1)).map (fun j=>i+1+j):=by
 have e:n=(i+1)+(n-i-1):=by lia
 conv=>lhs; rw [e,List.range_add,List.range_succ,List.append_assoc]
 simp
theorem zcF_ {β:Type}{f g:α→List β}{l:List α}(h:∀ a∈l,f a=g a):l.flatMap f=l.flatMap g:=by
 induction l with
 | nil=>rfl
 | cons a l ih=>rw [List.flatMap_cons,List.flatMap_cons,h a List.mem_cons_self,ih fun b hb=>h b (List.mem_cons_of_mem _ hb)]
theorem zeg_ {β:Type}(p:β→Bool) (f:α→List β) (l:List α):(l.flatMap f).filter p=l.flatMap fun a=>(f a).filter p:=by
 induction l with
 | nil=>rfl
 | cons a l ih=>rw [List.flatMap_cons,List.flatMap_cons,List.filter_append,ih]
theorem zcv_ {β:Type}{f:α→List β}{l:List α}(h:∀ a∈l,f a=[]):l.flatMap f=[]:=by
 induction l with
 | nil=>rfl
 | cons a l ih=>rw [List.flatMap_cons,h a List.mem_cons_self,ih fun b hb=>h b (List.mem_cons_of_mem _ hb)]; rfl
theorem zjT_ {k r:α→Nat}{M n:Nat}{ys:List α}{x:α}(hs:Srt k ys) (hk:∀ y∈ys,k y<M) (hkx:k x<M) (hr:r x<n) :
  insK (fun a=>r a*M+k a) x (dealR r n ys)=dealR r n (insK k x ys):=by
 have less:∀ a b:Nat,a<b→∀ u v:Nat,u<M→a*M+u<b*M+v:=by
  intro a b hab u v hu
  have:(a+1)*M≤b*M:=Nat.mul_le_mul_right _ hab
  rw [Nat.add_mul,Nat.one_mul] at this
  lia
 generalize hA:ys.filter (fun y=>decide (k y≤k x))=A
 generalize hB:ys.filter (fun y=>decide (k x<k y))=B
 have hys:ys=A++B:=by rw [← hA,← hB]; exact zcP_ hs (k x)
 have hAk:∀ y∈A,k y≤k x∧k y<M:=fun y hy=>by
  rw [← hA] at hy; obtain ⟨h1,h2⟩:=List.mem_filter.mp hy; exact ⟨by simpa using h2,hk y h1⟩
 have hBk:∀ y∈B,k x<k y∧k y<M:=fun y hy=>by
  rw [← hB] at hy; obtain ⟨h1,h2⟩:=List.mem_filter.mp hy; exact ⟨by simpa using h2,hk y h1⟩
 have e1:insK k x ys=A++x::B:=by unfold insK; rw [hA,hB]
 rw [e1]
 unfold insK dealR
 rw [zga_ hr]
 simp only [List.flatMap_append,List.flatMap_cons,List.filter_append,zeg_,List.filter_filter]
 have lo1:(List.range (r x)).flatMap (fun i=>ys.filter fun a=>(decide (r a*M+k a≤r x*M+k x) && decide (r a=i)))=(List.range (r x)).flatMap fun i=>(A++x::B).filter fun y=>decide (r y=i):=by
  refine zcF_ fun i hi=>?_
  have hi:=List.mem_range.mp hi
  rw [List.filter_append,List.filter_cons_of_neg (by simp; lia),← List.filter_append,← hys]
  refine List.filter_congr fun y hy=>?_
  by_cases z:r y=i
  ·have:=less (r y) (r x) (by lia) (k y) (k x) (hk y hy)
   simp [z]; rw [z] at this; lia
  ·simp [z]
 have lo2:(List.range (r x)).flatMap (fun i=>ys.filter fun a=>(decide (r x*M+k x<r a*M+k a) && decide (r a=i)))=[]:=by
  refine zcv_ fun i hi=>?_
  have hi:=List.mem_range.mp hi
  rw [List.filter_eq_nil_iff]
  intro y hy
  by_cases z:r y=i
  ·have:=less (r y) (r x) (by lia) (k y) (k x) (hk y hy)
   simp [z]; rw [z] at this; lia
  ·simp [z]
 have hi1:((List.range (n-r x-1)).map fun j=>r x+1+j).flatMap (fun i=>ys.filter fun a=>(decide (r a*M+k a≤r x*M+k x) && decide (r a=i)))=[]:=by
  refine zcv_ fun i hi=>?_
  obtain ⟨j,_,rfl⟩:=List.mem_map.mp hi
  rw [List.filter_eq_nil_iff]
  intro y hy
  by_cases z:r y=r x+1+j
  ·have:=less (r x) (r y) (by lia) (k x) (k y) hkx
   simp [z]; rw [z] at this; lia
  ·simp [z]
 have hi2:((List.range (n-r x-1)).map fun j=>r x+1+j).flatMap (fun i=>ys.filter fun a=>(decide (r x*M+k x<r a*M+k a) && decide (r a=i)))=((List.range (n-r x-1)).map fun j=>r x+1+j).flatMap fun i=>(A++x::B).filter fun y=>decide (r y=i):=by
  refine zcF_ fun i hi=>?_
  obtain ⟨j,_,rfl⟩:=List.mem_map.mp hi
  rw [List.filter_append,List.filter_cons_of_neg (by simp; lia),← List.filter_append,← hys]
  refine List.filter_congr fun y hy=>?_
  by_cases z:r y=r x+1+j
  ·have:=less (r x) (r y) (by lia) (k x) (k y) hkx
   simp [z]; rw [z] at this; lia
  ·simp [z]
 have mid1:ys.filter (fun a=>(decide (r a*M+k a≤r x*M+k x) && decide (r a=r x)))=A.filter fun y=>decide (r y=r x):=by
  rw [hys,List.filter_append]
  have:B.filter (fun a=>(decide (r a*M+k a≤r x*M+k x) && decide (r a=r x)))=[]:=by
   rw [List.filter_eq_nil_iff]
   intro y hy
   have:=hBk y hy
   by_cases z:r y=r x
   ·simp [z]; lia
   ·simp [z]
  rw [this,List.append_nil]
  refine List.filter_congr fun y hy=>?_
  have:=hAk y hy
  by_cases z:r y=r x
  ·simp [z]; lia
  ·simp [z]
 have mid2:ys.filter (fun a=>(decide (r x*M+k x<r a*M+k a) && decide (r a=r x)))=B.filter fun y=>decide (r y=r x):=by
  rw [hys,List.filter_append]
  have:A.filter (fun a=>(decide (r x*M+k x<r a*M+k a) && decide (r a=r x)))=[]:=by
   rw [List.filter_eq_nil_iff]
   intro y hy
   have:=hAk y hy
   by_cases z:r y=r x
   ·simp [z]; lia
   ·simp [z]
  rw [this,List.nil_append]
  refine List.filter_congr fun y hy=>?_
  have:=hBk y hy
  by_cases z:r y=r x
  ·simp [z]; lia
  ·simp [z]
 rw [lo1,lo2,hi1,hi2,mid1,mid2]
 have emid:(x::B).filter (fun y=>decide (r y=r x))=x::B.filter (fun y=>decide (r y=r x)):=List.filter_cons_of_pos (by simp)
 simp only [List.filter_append,emid,List.append_nil,List.nil_append,List.append_assoc,List.cons_append]
theorem zkZ_ {k r:α→Nat}{M n:Nat}(xs:List α) (hk:∀ y∈xs,k y<M) (hr:∀ y∈xs,r y<n):sK (fun a=>r a*M+k a) xs=dealR r n (sK k xs):=by
 induction xs using zaU_ with
 | h0=>unfold dealR; exact (zcv_ fun _ _=>rfl).symm
 | hs xs x ih =>
  have hx:x∈xs++[x]:=List.mem_append_right _ (List.mem_singleton.mpr rfl)
  rw [zbL_,zbL_,ih (fun y hy=>hk y (List.mem_append_left _ hy)) (fun y hy=>hr y (List.mem_append_left _ hy))]
  exact zjT_ (zh9_ k xs) (fun y hy=>hk y (List.mem_append_left _ ((zgT_ xs).mp hy))) (hk x hx) (hr x hx)
end
noncomputable abbrev Crd:=List Nat
noncomputable def isC (c:Crd):Prop:=c.length=40∧∀ x∈c,x∈SG
noncomputable def sg (c:Crd) (col:Int):Nat:=c.getD (col-1).toNat 0
noncomputable def rk1 (x:Nat):Nat:=(SG.findIdx? (· == x)).getD 0 % 37
noncomputable def rnk (c:Crd) (col:Int):Nat:=rk1 (sg c col)
noncomputable def colOk (col:Int):Prop:=1≤col∧col≤40
theorem zkP_ (x:Nat):rk1 x<37:=Nat.mod_lt _ (by decide)
theorem zkq_ {c:Crd}{col:Int}(h:isC c) (hc:colOk col):atI c (col-1)=some (sg c col)∧sg c col∈SG:=by
 obtain ⟨h1,h2⟩:=h
 obtain ⟨a,b⟩:=hc
 obtain ⟨x,e,hx⟩:=zb6_ (xs:=c) (k:=col-1) (by lia) (by lia)
 have:sg c col=x:=by
  rw [zgg_ (by lia)] at e
  unfold sg; rw [List.getD_eq_getElem?_getD,e]; rfl
 rw [this]
 exact ⟨e,h2 x hx⟩
noncomputable def kv:List Int→Crd→Nat
 | [],_=>0
 | c::L,a=>rnk a c*37 ^ L.length+kv L a
theorem zlQ_ (L:List Int) (a:Crd):kv L a<37 ^ L.length:=by
 induction L with
 | nil=>exact Nat.zero_lt_one
 | cons c L ih =>
  unfold kv
  rw [List.length_cons,Nat.pow_succ]
  have h:=zkP_ (sg a c)
  have:(rnk a c+1)*37 ^ L.length≤37*37 ^ L.length:=Nat.mul_le_mul_right _ h
  rw [Nat.add_mul,Nat.one_mul] at this
  rw [Nat.mul_comm (37 ^ L.length)]
  lia
noncomputable def deal (d:List Crd) (c:Int):List Crd:=dealR (fun x=>rnk x c) 37 d
theorem zfP_ (L:List Int) (c:Int) (d:List Crd):deal (sK (kv L) d) c=sK (kv (c::L)) d:=by
 have:=zkZ_ (k:=kv L) (r:=fun x=>rnk x c) (M:=37 ^ L.length) (n:=37) d (fun y _=>zlQ_ L y) (fun y _=>zkP_ _)
 exact this.symm
theorem zki_:kv []=fun _=>0:=rfl
theorem zhw_ (row L:List Int) (d:List Crd):row.foldl deal (sK (kv L) d)=sK (kv (row.reverse++L)) d:=by
 induction row generalizing L with
 | nil=>rfl
 | cons c row ih=>rw [List.foldl_cons,zfP_,ih,List.reverse_cons,List.append_assoc]; rfl
theorem zid_ (row:List Int) (d:List Crd):row.foldl deal d=sK (kv row.reverse) d:=by
 have:=zhw_ row [] d
 rw [zki_,zi5_,List.append_nil] at this
 exact this
noncomputable def ahd:List Int→Crd→Crd→Bool
 | [],_,_=>false
 | c::L,a,b=>if rnk a c=rnk b c then ahd L a b else decide (rnk a c<rnk b c)
theorem zh7_ (L:List Int) (a b:Crd):ahd L a b=decide (kv L a<kv L b):=by
 induction L with
 | nil=>rfl
 | cons c L ih =>
  unfold ahd kv
  have h1:=zlQ_ L a
  have h2:=zlQ_ L b
  split
  ·rename_i e; rw [ih,e,decide_eq_decide]; lia
  ·rename_i e
   rw [decide_eq_decide]
   rcases Nat.lt_or_gt_of_ne e with h | h
   ·have:(rnk a c+1)*37 ^ L.length≤rnk b c*37 ^ L.length:=Nat.mul_le_mul_right _ h
    rw [Nat.add_mul,Nat.one_mul] at this
    lia
   ·have:(rnk b c+1)*37 ^ L.length≤rnk a c*37 ^ L.length:=Nat.mul_le_mul_right _ h
    rw [Nat.add_mul,Nat.one_mul] at this
    lia
noncomputable def onceL (L:List Int):List Int:=L.foldl (fun acc c=>if c∈acc then acc else acc++[c]) []
theorem zg9_ (L:List Int) (a b:Crd):ahd L a b=match L.find? (fun c=>decide (rnk a c≠rnk b c)) with | some c=>decide (rnk a c<rnk b c) | none=>false:=by
 induction L with
 | nil=>rfl
 | cons c L ih =>
  unfold ahd
  rw [List.find?_cons]
  by_cases e:rnk a c=rnk b c
  ·rw [if_pos e,ih]; simp [e]
  ·rw [if_neg e]; simp [e]
theorem zh8_ (p:Int→Bool) (L:List Int):(onceL L).find? p=L.find? p:=by
 have:∀ (L acc:List Int),(L.foldl (fun acc c=>if c∈acc then acc else acc++[c]) acc).find? p=(acc++L).find? p:=by
  intro L
  induction L with
  | nil=>intro acc; rw [List.append_nil]; rfl
  | cons c L ih =>
   intro acc
   rw [List.foldl_cons,ih]
   split
   ·rename_i hc
    rw [List.find?_append,List.find?_append,List.find?_cons]
    cases e:acc.find? p with
    | some z=>rfl
    | none =>
     have:p c=false:=by
      rw [List.find?_eq_none] at e
      simpa using e c hc
     rw [this]
   ·rw [List.append_assoc]; rfl
 have h:=this L []
 rw [List.nil_append] at h
 exact h
theorem zju_ (L:List Int) (a b:Crd):ahd (onceL L) a b=ahd L a b:=by rw [zg9_,zg9_,zh8_]
noncomputable def insAt (p:Crd→Bool) (ys:List Crd):Nat→Nat
 | 0=>0
 | n+1=>match ys[n]? with | some y=>if p y then insAt p ys n else n+1 | none=>0
theorem zhJ_ {p:Crd→Bool}{A B:List Crd}(hA:∀ y∈A,p y=false) (hB:∀ y∈B,p y=true):insAt p (A++B) (A++B).length=A.length:=by
 have key:∀ n,n≤B.length→insAt p (A++B) (A.length+n)=A.length:=by
  intro n
  induction n with
  | zero =>
   intro _
   rw [Nat.add_zero]
   cases hl:A.length with
   | zero=>rfl
   | succ m =>
    unfold insAt
    have hm:m<A.length:=by lia
    rw [List.getElem?_append_left hm,List.getElem?_eq_getElem hm]
    show (if p A[m] then _ else _)=_
    rw [hA _ (List.getElem_mem hm)]; rfl
  | succ n ih =>
   intro hn
   show insAt p (A++B) ((A.length+n)+1)=_
   unfold insAt
   have hm:n<B.length:=by lia
   rw [List.getElem?_append_right (by lia),show A.length+n-A.length=n by lia,List.getElem?_eq_getElem hm]
   show (if p B[n] then _ else _)=_
   rw [hB _ (List.getElem_mem hm),if_pos rfl]
   exact ih (by lia)
 rw [List.length_append]
 exact key B.length (Nat.le_refl _)
theorem zky_ {k:Crd→Nat}{ys:List Crd}(hs:Srt k ys) (x:Crd) (p:Crd→Bool) (hp:∀ y,p y=decide (k x<k y)):insL ys (insAt p ys ys.length:Nat) x=insK k x ys:=by
 have hsp:=zcP_ hs (k x)
 generalize hA:ys.filter (fun y=>decide (k y≤k x))=A at hsp
 generalize hB:ys.filter (fun y=>decide (k x<k y))=B at hsp
 have e:insAt p ys ys.length=A.length:=by
  rw [hsp]
  refine zhJ_ (fun y hy=>?_) (fun y hy=>?_)
  ·rw [← hA] at hy; have:=(List.mem_filter.mp hy).2; rw [hp]; simp at this ⊢; lia
  ·rw [← hB] at hy; have:=(List.mem_filter.mp hy).2; rw [hp]; exact this
 unfold insL insK
 rw [e,Int.toNat_natCast,hA,hB,hsp,List.take_left',List.drop_left']
 ·rfl
 ·rfl
end L2
namespace L2
open PySem PySem.Spec PyProof.Rows
end L2
namespace L2
open PySem PySem.Spec PyProof.Rows
open PySem.SeqAt
open PySem.AutoSeq1 (wpAny_loadPart')
open PySem.MeetsSeq PySem.MeetsSeq2 PySem.MeetsSeq3
theorem zhe_:entryFor table "list.__eq__.loop" = some Builtin.«list.__eq__.loop»:=by kernel_rfl!
theorem zeH_ (A:Around) (args:PySem.Args):A.under (Code.builtin "list.__eq__.loop" args)=A.in1:=by rfl
theorem zeL_ (args:PySem.Args):(Code.builtin "list.__eq__.loop" args).quiet=true:=by first | kernel_rfl! | simp [Code.quiet] | (unfold Code.quiet; decide +kernel)
theorem zdh_:∀ {vs:List Value}{ns:List Int},IntsAre vs ns→∀ i:Nat,(vs[i]?=none∧ns[i]?=none)∨∃ a t,vs[i]?=some (.int a t)∧ns[i]?=some a
 | _,_,.nil,i=>.inl ⟨rfl,rfl⟩
 | _,_,.cons a t h,0=>.inr ⟨a,t,rfl,rfl⟩
 | _,_,.cons a t h,i+1=>by simpa using zdh_ h i
theorem zcy_ {α:Type}{xs:List α}{i:Nat}{a:α}(h:xs[i]?=some a):xs.drop i=a::xs.drop (i+1):=by
 obtain ⟨hi,e⟩:=List.getElem?_eq_some_iff.mp h
 rw [← e]; exact List.drop_eq_getElem_cons hi
theorem zd0_ {α:Type}{xs:List α}{i:Nat}(h:xs[i]?=none):xs.drop i=[]:=List.drop_eq_nil_of_le (List.getElem?_eq_none_iff.mp h)
theorem ze1_ (l b:Addr) (items items2:Array Value) (n n2:Nat) (dd dd2:Option Addr) (sl sl2:Array (Option Value)) (ns ms:List Int) (hi:IntsAre items.toList ns) (hj:IntsAre items2.toList ms):∀ (k i:Nat),items.size-i=k→i≤items.size→i≤items2.size →
  Meets (Builtin.«list.__eq__.loop» ⟨[.ref l,.ref b,rawInt (i:Nat),rawInt 0],[]⟩)
   (fun _ R s=>s.heap.get? l=some { cls:=.type "list",dict:=dd,data:=.seq items n,slots:=sl }∧s.heap.get? b=some { cls:=.type "list",dict:=dd2,data:=.seq items2 n2,slots:=sl2 } ∧
    R (.ok (.ret (.bool (HT.lexLt (ns.drop i) (ms.drop i))))) s):=by
 intro k
 induction k with
 | zero =>
  intro i hk b1 b2 prog w A R s h
  obtain ⟨hl,hb,h⟩:=h
  wp_walk using wpAny_listItems hl rfl,wpAny_listItems hb rfl
  have e1:items[i]?=none:=Array.getElem?_eq_none (by lia)
  have e1':ns[i]?=none:=by
   rcases zdh_ hi i with ⟨_,z⟩ | ⟨a,t,z,_⟩
   ·exact z
   ·rw [Array.getElem?_toList,e1] at z; cases z
  rw [Int.toNat_natCast,e1]
  rw [zd0_ e1'] at h
  rcases zdh_ hj i with ⟨z1,z2⟩ | ⟨c,u,z1,z2⟩
  ·rw [Array.getElem?_toList] at z1
   rw [z1]
   rw [zd0_ z2] at h
   wp_walk using wpAny_listItems hl rfl,wpAny_listItems hb rfl
   show R (.ok (.ret (.bool (decide (items.size<items2.size))))) s
   have z1:=Array.getElem?_eq_none_iff.mp z1
   rw [decide_eq_false (by lia)]; exact h
  ·rw [Array.getElem?_toList] at z1
   rw [z1]
   rw [zcy_ z2] at h
   wp_walk using wpAny_listItems hl rfl,wpAny_listItems hb rfl
   show R (.ok (.ret (.bool (decide (items.size<items2.size))))) s
   have z3:=(Array.getElem?_eq_some_iff.mp z1).1
   rw [decide_eq_true (by lia)]; exact h
 | succ k ih =>
  intro i hk b1 b2 prog w A R s h
  obtain ⟨hl,hb,h⟩:=h
  wp_walk using wpAny_listItems hl rfl,wpAny_listItems hb rfl
  rw [Int.toNat_natCast]
  rcases zdh_ hi i with ⟨z1,z2⟩ | ⟨a,t,z1,z2⟩
  ·rw [Array.getElem?_toList] at z1
   rw [Array.getElem?_eq_none_iff] at z1; lia
  rw [Array.getElem?_toList] at z1
  rw [z1]
  rw [zcy_ z2] at h
  rcases zdh_ hj i with ⟨y1,y2⟩ | ⟨c,u,y1,y2⟩
  ·rw [Array.getElem?_toList] at y1
   rw [y1]
   rw [zd0_ y2] at h
   wp_walk using wpAny_listItems hl rfl,wpAny_listItems hb rfl
   show R (.ok (.ret (.bool (decide (items.size<items2.size))))) s
   have z3:=(Array.getElem?_eq_some_iff.mp z1).1
   have y3:=Array.getElem?_eq_none_iff.mp y1
   rw [decide_eq_false (by lia)]; exact h
  rw [Array.getElem?_toList] at y1
  rw [y1]
  rw [zcy_ y2,HT.lexLt_cons] at h
  obtain ⟨e,he,hiff⟩:=HT.eqAt_int A.in1 s a t c u
  refine wpAny_bind (he prog w _ _ ?_)
  cases e with
  | true =>
   rw [if_pos (hiff.mp rfl)] at h
   wp_walk
   refine ⟨zeL_ _,codeAny_builtin zhe_ ?_⟩
   rw [zeH_]
   have q1:=(Array.getElem?_eq_some_iff.mp z1).1
   have q2:=(Array.getElem?_eq_some_iff.mp y1).1
   exact ih (i+1) (by lia) (by lia) (by lia) prog w A R s ⟨hl,hb,h⟩
  | false =>
   rw [if_neg (fun q=>absurd (hiff.mpr q) Bool.false_ne_true)] at h
   have hri:=HT.rcLt_int A.in1 s a t c u prog w
   wp_walk using wpAny_listItems hl rfl,wpAny_listItems hb rfl
   rw [z1,y1]
   wp_walk using hri
   exact h
theorem zeZ_ (l b:Addr) (items items2:Array Value) (n n2:Nat) (dd dd2:Option Addr) (sl sl2:Array (Option Value)) (ns ms:List Int) (hi:IntsAre items.toList ns) (hj:IntsAre items2.toList ms) :
  Meets (Builtin.«list.__lt__» ⟨[.ref l,.ref b],[]⟩)
   (fun _ R s=>s.heap.get? l=some { cls:=.type "list",dict:=dd,data:=.seq items n,slots:=sl }∧s.heap.get? b=some { cls:=.type "list",dict:=dd2,data:=.seq items2 n2,slots:=sl2 } ∧
    R (.ok (.ret (.bool (HT.lexLt ns ms)))) s):=by
 intro prog w A R s h
 obtain ⟨hl,hb,h⟩:=h
 have f2:=AutoSeq1.sub_list_list
 wp_walk using wpAny_loadPart' hl,wpAny_loadPart' hb
 refine ⟨zeL_ _,codeAny_builtin zhe_ ?_⟩
 rw [zeH_]
 exact ze1_ l b items items2 n n2 dd dd2 sl sl2 ns ms hi hj _ 0 rfl (Nat.zero_le _) (Nat.zero_le _) prog w A R s ⟨hl,hb,h⟩
theorem zf7_ {prog:Program}{w:World}{A:Around}{E:Value→Shared→Prop}{s:Shared}{l b:Addr}{items items2:Array Value}{ns ms:List Int}{Q:Value→Shared→Prop}(hl:s.heap.IsList l items) (hb:s.heap.IsList b items2) (hi:IntsAre items.toList ns) (hj:IntsAre items2.toList ms)
  (hu:A.units<cLine) (h:Q (.bool (HT.lexLt ns ms)) s):wpAny (model prog w) A (compareOp .Lt (.ref l) (.ref b)) Q E s:=by
 obtain ⟨⟨cls,dd,data,sl⟩,ho,hc,n,hd⟩:=id hl
 obtain ⟨⟨cls2,dd2,data2,sl2⟩,ho2,hc2,n2,hd2⟩:=id hb
 simp only at hc hd hc2 hd2
 subst hc hd hc2 hd2
 exact richCompare_meets_room (op:=.Lt) ⟨_,ho,rfl⟩ ⟨_,ho2,rfl⟩ PySem.F.slot_list_lt PySem.F.entry_list_lt (PySem.F.args_list_lt_2 _ _) (zeZ_ l b items items2 n n2 dd dd2 sl sl2 ns ms hi hj)
  ⟨ho,ho2,show Value.bool (HT.lexLt ns ms)≠Value.notImplemented∧Q (.bool (HT.lexLt ns ms)) s from ⟨(fun x=>nomatch x),h⟩⟩ hu
end L2
namespace L2
open PySem PySem.Spec PyProof.Rows
noncomputable def mLtK (K:Fgg):R2:=fun x y H Q=>match x,y with
 | .ref a,.ref b=>∃ ns ms,SqL K H a (ns.map V.int)∧SqL K H b (ms.map V.int)∧Q (.bl (HT.lexLt ns ms)) H
 | _,_=>mLtS x y H Q
theorem zhn_ {X:Cx}(hu:X.A.units+60<cLine):OpR X (compareOp .Lt) (mLtK X.K):=by
 intro pins s σ H x y v u Q I rx ry h
 cases x<;>cases y<;>first
  | exact zkn_ pins s σ H _ _ v u Q I rx ry h
  | (obtain ⟨ns,ms,ha,hb,q⟩:=h
     cases rx
     cases ry
     obtain ⟨its,r1,p1,_⟩:=I.list ha
     obtain ⟨its2,r2,p2,_⟩:=I.list hb
     have i1:IntsAre its.toArray.toList ns:=zey_ r1
     have i2:IntsAre its2.toArray.toList ms:=zey_ r2
     exact zf7_ p1.isList p2.isList i1 i2 (by lia) ⟨.bl (HT.lexLt ns ms),H,I,rfl,q⟩)
section
variable {K:Fgg}{E:XK}{H:Hp}
theorem zfF_:Op2 K (mLtK K) E tyInt tyInt (fun i j=>.ok (decide (i<j))) tyBl:=by
 rintro a b x y F H Q hs rfl rfl k
 exact k.ok hs _ rfl
theorem zka_:Op2 K (mLtK K) E tyStr tyStr (fun i j=>.ok (decide (i<j))) tyBl:=by
 rintro a b x y F H Q hs rfl rfl k
 exact k.ok hs _ rfl
end
end L2
namespace L2
open PySem PySem.Spec PyProof.Rows
section
variable {α:Type}
theorem zkQ_ {n d:Nat}{i:Int}(h:0≤i):HT.sIx n d (some i)=min i.toNat n:=by
 unfold HT.sIx
 simp only
 split<;>lia
theorem zgx_ {xs:List α}{i:Int}(h:0≤i):cutG xs none (some i)=xs.take i.toNat:=by
 unfold cutG
 rw [zkQ_ h,show HT.sIx xs.length 0 none=0 from rfl,List.drop_zero,Nat.sub_zero,← List.take_take,List.take_length]
theorem zek_ {xs:List α}{i:Int}(h:0≤i):cutG xs (some i) none=xs.drop i.toNat:=by
 unfold cutG
 rw [zkQ_ h,show HT.sIx xs.length xs.length none=xs.length from rfl]
 by_cases hl:i.toNat≤xs.length
 ·rw [Nat.min_eq_left hl,List.take_of_length_le (by rw [List.length_drop]; exact Nat.le_refl _)]
 ·rw [Nat.min_eq_right (by lia),List.drop_length,List.drop_eq_nil_of_le (by lia),List.take_nil]
end
end L2
namespace L2
open PySem PySem.Spec PyProof.Rows
section
variable {K:Fgg}{E:XK}{α β γ ρ S S' B B':Type}{F0 H0 F h H:Hp}{L L':List Sl}{e e1 e2:TE}{T:Ty α}{r:Mo α}{O:Own ρ}{t u:TS}{LS:S→List Sl}{LS':S'→List Sl}{LB:B→List Sl}
theorem zo_ {C:Cs γ}{f:γ→Mo α}{ta:TA}{r:Mo γ}(h:EvA K ta E L r C):EvF K (tCall (Ct K C f (owF T)) [] E0 ta) E L (r.bind fun c=>(f c).noex) T:=(zb1_ h).fr
theorem zlu_ {n c:String}{bb:Bool}{r:Mo (Option α)}(hn:TyN K T n) (h:EvF K e E L r (tyOpt T)) (hb:isaB n c=some bb:=by decide) (hb2:isaB "NoneType" c=some false:=by decide):EvF K (tCB (mIsa K) (tCons e (tCons (tC (.ty c)) tNil))) E L (r.bind fun a=>.ok (a.isSome && bb)) tyBl:=by
 intro σ F H Q hL hs q
 refine h σ F H _ hL hs (q.bind.imp fun l F1 H1 x1 k1 v hv=>?_)
 cases l with
 | none =>
  cases (show v=.non from hv)
  exact zhC_ (K:=K) (n := "NoneType") (x:=.non) rfl hb2 (k1.ok x1.2.1 _ rfl)
 | some a=>exact zhC_ (hn (T.mono x1.2.1 hv.1)) hb (k1.ok x1.2.1 _ rfl)
end
end L2
namespace L2
open PySem PySem.Spec PyProof.Rows
noncomputable def repL {α:Type}(xs:List α) (n:Int):List α:=(List.replicate n.toNat xs).flatten
noncomputable def CRep (m:Nat) (n:Int):Prop:=0≤n∧n≤100000∧m≤100000∧m*n.toNat≤100000
instance (m:Nat) (n:Int):Decidable (CRep m n):=inferInstanceAs (Decidable (_∧_))
noncomputable def mMulX:R2:=fun x y H Q=>match x,y with
 | .int i,.int j=>IntMulOk i j∧Q (.int (i*j)) H
 | .str z,.int n=>CRep z.cps.toList.length n∧Q (tx (repL z.cps.toList n)) H
 | .ref l,.int k=>∃ xs,H l=some (.lst xs)∧CRep xs.length k∧∀ p,H p=none→Q (.ref p) (upd H p (.lst (repL xs k)))
 | _,_=>False
theorem ziW_ (z:Array Nat) (n:Nat):(List.foldl (fun x1 x2=>x1++x2) #[] (List.replicate n z)).toList=(List.replicate n z.toList).flatten:=by
 have:∀ (l:List (Array Nat)) (acc:Array Nat),(l.foldl (fun x1 x2=>x1++x2) acc).toList=acc.toList++(l.map Array.toList).flatten:=by
  intro l
  induction l with
  | nil=>intro acc; simp
  | cons a l ih=>intro acc; rw [List.foldl_cons,ih]; simp
 rw [this]
 simp
theorem zkd_ {X:Cx}:OpR X (binaryOp .Mult) mMulX:=by
 intro pins s σ H x y v u Q I rx ry h
 cases x<;>cases y<;>first
  | exact h.elim
  | exact zle_ pins s σ H _ _ v u Q I rx ry h
  | (obtain ⟨xs,hl,⟨c1,c2,c3,c4⟩,q⟩:=h
     exact zlV_ pins s σ H _ _ v u Q I rx ry ⟨_,_,xs,rfl,rfl,hl,by lia,by lia,zbH_ c4,q⟩)
  | (rename_i z n
     obtain ⟨⟨c1,c2,c3,c4⟩,q⟩:=h
     obtain ⟨t,rfl⟩:=rx
     obtain ⟨t',rfl⟩:=ry
     have hz:z.length=z.cps.toList.length:=by simp [Str.length]
     refine PySem.P.mul_str (by simp; lia) (fun h1 h2=>?_) (fun h1 h2=>?_) ?_
     ·rw [hz]
      have hn:0<n:=by lia
      have:(z.cps.toList.length:Int)*n≤2 ^ 63-1:=by
       have e:n=(n.toNat:Int):=by lia
       rw [e,← Int.natCast_mul]; lia
      have:=Int.le_ediv_of_mul_le hn this
      lia
     ·unfold Builtin.Str.tooLong
      rw [hz]
      have:=zbH_ c4
      exact decide_eq_false (by lia)
     ·by_cases h1:n<1
      ·rw [if_pos h1]
       have:n=0:=by lia
       subst this
       exact ⟨Nat.zero_le _,tx [],H,I.tok _,⟨_,rfl⟩,q⟩
      ·rw [if_neg h1]
       by_cases h2:(n == 1 || z.length == 0)=true
       ·rw [if_pos h2]
        have e:repL z.cps.toList n=z.cps.toList:=by
         unfold repL
         rw [Bool.or_eq_true] at h2
         rcases h2 with h2 | h2
         ·have:n=1:=by simpa using h2
          subst this; simp
         ·have:z.cps.toList=[]:=List.length_eq_zero_iff.mp (by rw [← hz]; simpa using h2)
          rw [this]; simp
        rw [e] at q
        refine ⟨tx z.cps.toList,H,I,⟨t,?_⟩,q⟩
        show Value.str z t=Value.str ⟨z.cps.toList.toArray⟩ t
        rw [← zch_]
       ·rw [if_neg h2]
        refine ⟨?_,tx (repL z.cps.toList n),H,I.tok _,⟨s.toks,?_⟩,q⟩
        ·have e:(⟨List.foldl (fun x1 x2=>x1++x2) #[] (List.replicate n.toNat z.cps)⟩:Str).length=(List.replicate n.toNat z.cps.toList).flatten.length:=by
          rw [← ziW_]; simp [Str.length]
         rw [e,zi4_]
         exact zbH_ (by rw [Nat.mul_comm]; exact c4)
        show Value.str _ _=Value.str _ _
        congr 1
        unfold repL
        rw [← ziW_])
section
variable {K:Fgg}{E:XK}{α β γ ρ S S' B B':Type}{F0 H0 F h H:Hp}{L L':List Sl}{e e1 e2:TE}{T:Ty α}{r:Mo α}{O:Own ρ}{t u:TS}{LS:S→List Sl}{LB:B→List Sl}
theorem zjA_:Op2 K mMulX E tyInt tyInt (fun i j=>.grd (IntMulOk i j) (.ok (i*j))) tyInt:=by
 rintro a b x y F H Q hs rfl rfl k
 obtain ⟨c,k⟩:=k.grd
 exact ⟨c,k.ok hs _ rfl⟩
noncomputable def strsL (l:List (List Nat)):List Str:=l.map fun z=>⟨z.toArray⟩
theorem zjH_ {l:List (List Nat)}{vs:List V}(h:Prs tyStr H l vs):strsOf vs=some (strsL l):=by
 induction h with
 | nil=>rfl
 | cons r t ih=>cases r; show (strsOf _).map _=_; rw [ih]; rfl
theorem zkm_:Me K (mJoin K) E (csLast (tyL tyStr)) (fun l c=>.grd (JoinOk ⟨l.toArray⟩ (strsL c)=true) (.ok (joinS l (strsL c)))) tyStr:=by
 rintro l c vs F H Q hs ⟨v,rfl,p,us,rfl,hp,hr⟩ k
 obtain ⟨z,k⟩:=k.grd
 refine ⟨us,.of (hs _ _ hp),?_⟩
 rw [zjH_ hr]
 exact ⟨z,k.ok hs _ rfl⟩
noncomputable abbrev Pas:=Int×Option (List Nat)
noncomputable def passR (c:Pas) (v:V) (H:Hp):Prop:=∃ p,v=.ref p∧H p=some (.tup (match c.2 with | none=>[tx [100,101,97,108],.int c.1] | some s=>[tx [112,105,99,107],.int c.1,tx s]))
noncomputable abbrev tyPass:Ty Pas:=⟨passR,fun g ⟨p,e,h⟩=>⟨p,e,g _ _ h⟩⟩
theorem zaa_:Imm tyPass:=fun g ⟨p,e,h⟩=>⟨p,e,g _ _ h⟩
theorem zlv_ {r:Mo Int}(h:EvF K e E L r tyInt):EvF K (tTup (tCons (tC (tx [100,101,97,108])) (tCons e tNil))) E L (r.bind fun c=>.ok (c,none)) tyPass:=by
 intro σ F H Q hL hs q
 refine h σ F H _ hL hs (q.bind.imp fun c F1 H1 x1 k1 v hv=>⟨zbH_ (by show 2≤100000; decide),fun p hp=>?_⟩)
 cases hv
 exact k1 _ _ (Ext.new x1.2.1 hp) _ ⟨p,rfl,zau_⟩
theorem zfX_ {r:Mo Int}{r2:Mo (List Nat)}(h:EvF K e E L r tyInt) (h2:EvF K e2 E L r2 tyStr):EvF K (tTup (tCons (tC (tx [112,105,99,107])) (tCons e (tCons e2 tNil)))) E L (r.bind fun c=>r2.bind fun s=>.ok (c,some s)) tyPass:=by
 intro σ F H Q hL hs q
 refine h σ F H _ hL hs (q.bind.imp fun c F1 H1 x1 k1 v hv=>?_)
 refine h2 σ F1 H1 _ (hL.mono x1.1) x1.2.1 (k1.bind.imp fun s F2 H2 x2 k2 v2 hv2=>⟨zbH_ (by show 3≤100000; decide),fun p hp=>?_⟩)
 cases hv; cases hv2
 exact k2 _ _ (Ext.new x2.2.1 hp) _ ⟨p,rfl,zau_⟩
noncomputable def pTag (c:Pas):List Nat:=match c.2 with | none=>[100,101,97,108] | some _=>[112,105,99,107]
theorem zc1_ {r:Mo Pas}(h:EvF K e E L r tyPass):EvF K (tOp (mIx K) e (tC (.int 0))) E L (r.bind fun c=>.ok (pTag c)) tyStr:=by
 intro σ F H Q hL hs q
 refine h σ F H _ hL hs (q.bind.imp fun c F1 H1 x1 k1 v ⟨p,ev,hp⟩=>?_)
 subst ev
 refine ⟨_,.inr (.of (x1.2.1 _ _ hp)),?_⟩
 obtain ⟨c1,c2⟩:=c
 cases c2 with
 | none=>exact k1.ok x1.2.1 _ rfl
 | some s=>exact k1.ok x1.2.1 _ rfl
theorem zaK_ {r:Mo Pas}(h:EvF K e E L r tyPass):EvF K (tOp (mIx K) e (tC (.int 1))) E L (r.bind fun c=>.ok c.1) tyInt:=by
 intro σ F H Q hL hs q
 refine h σ F H _ hL hs (q.bind.imp fun c F1 H1 x1 k1 v ⟨p,ev,hp⟩=>?_)
 subst ev
 refine ⟨_,.inr (.of (x1.2.1 _ _ hp)),?_⟩
 obtain ⟨c1,c2⟩:=c
 cases c2 with
 | none=>exact k1.ok x1.2.1 _ rfl
 | some s=>exact k1.ok x1.2.1 _ rfl
theorem zb2_ {r:Mo Pas}(h:EvF K e E L r tyPass):EvF K (tOp (mIx K) e (tC (.int 2))) E L (r.bind fun c=>.opt c.2) tyStr:=by
 intro σ F H Q hL hs q
 refine h σ F H _ hL hs (q.bind.imp fun c F1 H1 x1 k1 v ⟨p,ev,hp⟩=>?_)
 subst ev
 obtain ⟨s,es,k1⟩:=k1.opt
 refine ⟨_,.inr (.of (x1.2.1 _ _ hp)),?_⟩
 obtain ⟨c1,c2⟩:=c
 cases (show c2=some s from es)
 exact k1.ok x1.2.1 _ rfl
theorem ze4_:EqT K tyPass 1 (fun a b=>decide (a=b)):=⟨by
 rintro ⟨a1,a2⟩ ⟨b1,b2⟩ x y H ⟨p,rfl,hp⟩ ⟨q,rfl,hq⟩
 have fl:∀ {x y:V},flatV x=true→flatV y=true→EqD K H 0 x y (eqV x y):=fun h1 h2=>.flat h1 h2
 have ei:eqV (.int a1) (.int b1)=decide (a1=b1):=rfl
 have es:∀ s t:List Nat,eqV (tx s) (tx t)=decide (s=t):=fun s t=>by
  have:=(ziV_ (K:=K)).eq (H:=H) (a:=s) (b:=t) rfl rfl
  exact zkY_.eq (H:=H) (a:=s) (b:=t) rfl rfl
 have key:∀ (xs ys:List V),H p=some (.tup xs)→H q=some (.tup ys)→(∀ (i:Nat) v,xs[i]?=some v→flatV v=true)→(∀ (i:Nat) v,ys[i]?=some v→flatV v=true) →
   EqD K H 1 (.ref p) (.ref q) ((List.range (min xs.length ys.length)).all (fun i=>match xs[i]?,ys[i]? with | some v,some w=>eqV v w | _,_=>true) && xs.length == ys.length):=by
  intro xs ys h1 h2 h3 h4
  refine .tup _ (.of h1) (.of h2) fun i x y hx hy=>?_
  simp only [hx,hy]
  exact fl (h3 i x hx) (h4 i y hy)
 have f2:∀ (t:List Nat) (c:Int),∀ (i:Nat) v,([tx t,.int c]:List V)[i]?=some v→flatV v=true:=by
  intro t c i v h
  match i with
  | 0=>cases h; rfl
  | 1=>cases h; rfl
  | n+2=>cases h
 have f3:∀ (t:List Nat) (c:Int) (s:List Nat),∀ (i:Nat) v,([tx t,.int c,tx s]:List V)[i]?=some v→flatV v=true:=by
  intro t c s i v h
  match i with
  | 0=>cases h; rfl
  | 1=>cases h; rfl
  | 2=>cases h; rfl
  | n+3=>cases h
 cases a2 with
 | none =>
  cases b2 with
  | none =>
   have:=key _ _ hp hq (f2 _ _) (f2 _ _)
   have e:decide (((a1,none):Pas)=(b1,none))=decide (a1=b1):=by rw [decide_eq_decide]; simp
   rw [e]
   simpa [List.range_succ,es,ei] using this
  | some t =>
   have:=key _ _ hp hq (f2 _ _) (f3 _ _ _)
   simpa [List.range_succ,es,ei] using this
 | some s =>
  cases b2 with
  | none =>
   have:=key _ _ hp hq (f3 _ _ _) (f2 _ _)
   simpa [List.range_succ,es,ei] using this
  | some t =>
   have:=key _ _ hp hq (f3 _ _ _) (f3 _ _ _)
   have e:decide (((a1,some s):Pas)=(b1,some t))=(decide (a1=b1) && decide (s=t)):=by rw [Bool.eq_iff_iff]; simp
   rw [e]
   simpa [List.range_succ,es,ei] using this⟩
end
end L2
namespace L2
open PySem PySem.Spec PyProof.Rows
structure KyT (κ:Type) where
 T:Ty κ
 key:κ→Key
 inj:∀ {a b},key a=key b→a=b
 of:∀ {a v H},T.R a v H→keyV v=some (key a)
noncomputable abbrev kInt:KyT Int:=⟨tyInt,Sum.inl,fun h=>by injection h,fun h=>by cases h; rfl⟩
section
variable {K:Fgg}{E:XK}{α β γ ρ κ S S' B B':Type}{F0 H0 F h H:Hp}{L L':List Sl}{e e1 e2:TE}{T:Ty α}{r:Mo α}{O:Own ρ}{t u:TS}{LS:S→List Sl}{LB:B→List Sl}{KY:KyT κ}
noncomputable abbrev DPr (KY:KyT κ) (T:Ty α) (H:Hp) (m:List (κ×α)) (kvs:List (Key×V)):Prop:=Paired (fun (q:κ×α) (w:Key×V)=>w.1=KY.key q.1∧T.R q.2 w.2 H) m kvs
theorem DPr.mono {m:List (κ×α)}{kvs:List (Key×V)}{H H':Hp}(g:Same H H') (h:DPr KY T H m kvs):DPr KY T H' m kvs:=zbR_ (fun _ _ r=>⟨r.1,T.mono g r.2⟩) h
theorem DPr.imm (i:Imm T) {m:List (κ×α)}{kvs:List (Key×V)}{H H':Hp}(g:Tups H H') (h:DPr KY T H m kvs):DPr KY T H' m kvs:=zbR_ (fun _ _ r=>⟨r.1,i g r.2⟩) h
noncomputable abbrev tyD (KY:KyT κ) (T:Ty α):Ty (List (κ×α)):=⟨fun m v H=>∃ p kvs,v=.ref p∧H p=some (.dK kvs)∧DPr KY T H m kvs,fun g ⟨p,kvs,e,h,q⟩=>⟨p,kvs,e,g _ _ h,q.mono g⟩⟩
noncomputable abbrev owD (KY:KyT κ) (T:Ty α):Own (List (κ×α)):=⟨fun m v F h=>∃ p kvs,v=.ref p∧h=one p (.dK kvs)∧DPr KY T F m kvs,tyD KY T,fun g ⟨p,vs,e,z,q⟩=>⟨p,vs,e,z,q.mono g⟩,
 fun d ⟨p,vs,e,z,q⟩=>⟨p,vs,e,zhX_ d _ _ (by rw [z]; exact zcu_),q.mono zcE_⟩,
 fun ⟨p,vs,e,z,q⟩ b xs y=>by rw [z] at y; unfold one at y; split at y<;>cases y⟩
theorem zgB_ (i:Imm T):ImmO (owD KY T):=fun g ⟨p,vs,e,z,q⟩=>⟨p,vs,e,z,q.imm i g⟩
variable [DecidableEq κ]
noncomputable def getA (m:List (κ×α)) (k:κ):Option α:=(m.find? fun q=>decide (q.1=k)).map (·.2)
noncomputable def putA (m:List (κ×α)) (k:κ) (v:α):List (κ×α):=if (m.any fun q=>decide (q.1=k))=true then m.map (fun q=>if q.1=k then (q.1,v) else q) else m++[(k,v)]
theorem ziG_ (a b:κ):decide (KY.key a=KY.key b)=decide (a=b):=by rw [decide_eq_decide]; exact ⟨KY.inj,fun h=>by rw [h]⟩
theorem zc4_ {m:List (κ×α)}{kvs:List (Key×V)}(h:DPr KY T H m kvs) (k:κ):(getA m k=none∧valV kvs (KY.key k)=none)∨∃ a v,getA m k=some a∧valV kvs (KY.key k)=some v∧T.R a v H:=by
 induction h with
 | nil=>exact .inl ⟨rfl,rfl⟩
 | cons r t ih =>
  rename_i q w m kvs
  unfold getA valV at ih ⊢
  rw [List.find?_cons,List.find?_cons,r.1,ziG_]
  by_cases e:q.1=k
  ·rw [decide_eq_true e]; exact .inr ⟨_,_,rfl,rfl,r.2⟩
  ·rw [decide_eq_false e]; exact ih
theorem zlj_ {m:List (κ×α)}{kvs:List (Key×V)}(h:DPr KY T H m kvs) (k:κ):(kvs.any fun w=>decide (w.1=KY.key k))=m.any fun q=>decide (q.1=k):=by
 induction h with
 | nil=>rfl
 | cons r t ih=>rw [List.any_cons,List.any_cons,ih,r.1,ziG_]
theorem zlp_ {m m':List (κ×α)}{kvs kvs':List (Key×V)}(h:DPr KY T H m kvs) (h':DPr KY T H m' kvs'):DPr KY T H (m++m') (kvs++kvs'):=by
 induction h with
 | nil=>exact h'
 | cons r t ih=>exact .cons r ih
theorem zln_ {m:List (κ×α)}{kvs:List (Key×V)}(h:DPr KY T H m kvs) (k:κ) {a:α}{v:V}(hv:T.R a v H):DPr KY T H (m.map fun q=>if q.1=k then (q.1,a) else q) (kvs.map fun w=>if w.1=KY.key k then (w.1,v) else w):=by
 induction h with
 | nil=>exact .nil
 | cons r t ih =>
  rename_i q w m kvs
  rw [List.map_cons,List.map_cons]
  refine .cons ?_ ih
  by_cases e:q.1=k
  ·rw [if_pos e,if_pos (by rw [r.1,e])]; exact ⟨r.1,hv⟩
  ·rw [if_neg e,if_neg (fun z=>e (KY.inj (by rw [← r.1,z])))]; exact r
theorem zgH_ {m:List (κ×α)}{kvs:List (Key×V)}(h:DPr KY T H m kvs) (k:κ) {a:α}{v:V}(hv:T.R a v H):DPr KY T H (putA m k a) (putK kvs (KY.key k) v):=by
 unfold putA putK
 rw [zlj_ h]
 split
 ·exact zln_ h k hv
 ·exact zlp_ h (.cons ⟨rfl,hv⟩ .nil)
theorem ziL_ (KY:KyT κ) (T:Ty α):EvO K tDNewK E L (.ok []) (owD KY T):=by
 intro σ F H Q hL hs q p hp
 have q':OwnK (owD KY T) H Q [] F (upd H p (.dK [])):=q F _ (.heap hs (zb4_ hp _))
 refine q' (.ref p) (one p (.dK [])) (fun b z=>?_) (fun b=>?_) (fun b o z=>?_) ⟨p,[],rfl,rfl,.nil⟩
 ·unfold one at z; split at z
  ·rename_i e; rw [e]; exact hp
  ·exact absurd rfl z
 ·unfold one; split
  ·rename_i e; rw [e]; exact .inl (hs.free hp)
  ·exact .inr rfl
 ·unfold one at z; split at z
  ·rename_i e; rw [e]; cases z; exact zau_
  ·cases z
theorem zeI_ (i:Nat) {m:List (κ×α)}(h:L[i]?=some (.ow (owD KY T) m)):EvF K (mVar i) E L (.ok m) (tyD KY T):=ziT_ i h
theorem at_d {x y:V}{R:Addr→List (Key×V)→Key→Prop}{m:List (κ×α)}{k:κ}(hx:(tyD KY T).R m x F) (hy:KY.T.R k y F) (hs:Same F H) (hr:∀ p kvs,H p=some (.dK kvs)→DPr KY T F m kvs→R p kvs (KY.key k)):atD x y H R:=by
 obtain ⟨p,kvs,rfl,hp,hd⟩:=hx
 unfold atD
 simp only
 rw [KY.of hy]
 exact ⟨kvs,hs _ _ hp,hr p kvs (hs _ _ hp) hd⟩
theorem zhk_ {r1:Mo (List (κ×α))}{r2:Mo κ}(h1:EvF K e1 E L r1 (tyD KY T)) (h2:EvF K e2 E L r2 KY.T):EvF K (mDGet e1 e2) E L (r1.bind fun m=>r2.bind fun k=>.opt (getA m k)) T:=by
 intro σ F H Q hL hs q
 refine h1 σ F H _ hL hs (q.bind.imp fun m F1 H1 x1 k1 v1 hv1=>?_)
 refine h2 σ F1 H1 _ (hL.mono x1.1) x1.2.1 (k1.bind.imp fun k F2 H2 x2 k2 v2 hv2=>?_)
 refine at_d ((tyD KY T).mono x2.1 hv1) hv2 x2.2.1 fun p kvs hp hd=>?_
 obtain ⟨a,ea,k3⟩:=k2.opt
 rcases zc4_ hd k with ⟨z,_⟩ | ⟨a',v,z1,z2,z3⟩
 ·rw [z] at ea; cases ea
 ·rw [z1] at ea; cases ea
  exact ⟨v,z2,k3.ok x2.2.1 v z3⟩
theorem zh4_ (neg:Bool) {r1:Mo (List (κ×α))}{r2:Mo κ}(h2:EvF K e2 E L r2 KY.T) (h1:EvF K e1 E L r1 (tyD KY T)):EvF K (mDIn neg e2 e1) E L (r2.bind fun k=>r1.bind fun m=>.ok (if neg then !(getA m k).isSome else (getA m k).isSome)) tyBl:=by
 intro σ F H Q hL hs q
 refine h2 σ F H _ hL hs (q.bind.imp fun k F1 H1 x1 k1 v1 hv1=>?_)
 refine h1 σ F1 H1 _ (hL.mono x1.1) x1.2.1 (k1.bind.imp fun m F2 H2 x2 k2 v2 hv2=>?_)
 refine at_d hv2 (KY.T.mono x2.1 hv1) x2.2.1 fun p kvs hp hd=>?_
 have e:(valV kvs (KY.key k)).isSome=(getA m k).isSome:=by
  rcases zc4_ hd k with ⟨z1,z2⟩ | ⟨a',v,z1,z2,z3⟩
  ·rw [z1,z2]; rfl
  ·rw [z1,z2]; rfl
 rw [e]
 exact k2.ok x2.2.1 _ rfl
theorem zbS_ {i:Nat}{σ:St}{m:List (κ×α)}(hL:Hold L σ F h) (hi:L[i]?=some (.ow (owD KY T) m)) (ok:Okk F0 H0 F h H) :
  ∃ p kvs,σ[i]?=some (some (.ref p))∧H p=some (.dK kvs)∧DPr KY T F m kvs∧∀ m' kvs',DPr KY T F m' kvs'→∃ h',Hold (L.set i (.ow (owD KY T) m')) σ F h'∧Okk F0 H0 F h' (upd H p (.dK kvs')):=by
 obtain ⟨o,h1,h2,e1,j,⟨v,e2,p,kvs,rfl,rfl,hr⟩,f⟩:=hL.at i hi
 subst e2
 have hp:h p=some (.dK kvs):=j.l _ _ zcu_
 have h2p:h2 p=none:=by
  rcases j.dj p with z | z
  ·rw [zcu_] at z; cases z
  ·exact z
 refine ⟨p,kvs,e1,ok.2.2.1 _ _ hp,hr,fun m' kvs' hr'=>?_⟩
 have d2:Dj (one p (.dK kvs')) h2:=fun q=>by
  unfold one; split
  ·rename_i z; rw [z]; exact .inr h2p
  ·exact .inl rfl
 have g:=f (.ow (owD KY T) m') (some (.ref p)) (one p (.dK kvs')) _ (zlC_ d2) ⟨_,rfl,p,kvs',rfl,rfl,hr'⟩
 rw [zcZ_ e1] at g
 refine ⟨_,g,zkU_ (h1':=h) (hr:=h) (h':=h) ok (by rw [hp]; exact Option.some_ne_none _) (fun xs z=>by cases z) _ fun b=>?_⟩
 unfold un one
 by_cases z:b=p
 ·simp only [if_pos z]
 ·simp only [if_neg z]
  rcases j b with ⟨_,c⟩ | ⟨a,c⟩
  ·exact c.symm
  ·rw [c,a]; unfold one; rw [if_neg z]
theorem zgM_ {i:Nat}{m:List (κ×α)}{r2:Mo κ}{k:α→κ→Mo (Out ρ B S)}(hi:L[i]?=some (.ow (owD KY T) m)) (hT:Imm T) (hKT:Imm KY.T) (he:EvF K e E L r T) (he2:EvF K e2 E L r2 KY.T) (hk:∀ a y,EvS K u E (L.set i (.ow (owD KY T) (putA m y a))) (k a y) LS LB O) :
  EvS K (tSeq (mDPut (mVar i) e2 e) u) E L (r.bind fun a=>r2.bind fun y=>.lim (m.length+1) (k a y)) LS LB O:=by
 intro F0 H0 σ F h H D hL ok fin
 show e σ H fun v H1=>mVar i σ H1 fun x H2=>e2 σ H2 fun y H3=>atD x y H3 fun a kvs k=>kvs.length<sizeLine∧u D σ (upd H3 a (.dK (putK kvs k v)))
 refine he σ (un F h) H _ (hL.froz ok.2.1) ok.thaw (zbx_ (G:=F) ok _ (.inl rfl) fin fun a F1 H1 hra x1 v hv=>?_)
 obtain ⟨o,hs,ht⟩:=ok.back x1
 rw [hra] at fin
 have hL':=hL.mono hs
 have hv':=hT ht hv
 obtain ⟨p,kvs,e1,hp,hr,_⟩:=zbS_ hL' hi o
 refine zeQ_ e1 ?_
 refine he2 σ (un _ h) H1 _ (hL'.froz o.2.1) o.thaw (zbx_ (G:=F) o _ (.inl rfl) fin fun y F2 H2 hry x2 v2 hv2=>?_)
 obtain ⟨o',hs',ht'⟩:=o.back x2
 rw [hry] at fin
 obtain ⟨hz,fin⟩:=zeA_ (show Fin K (Mo.lim (m.length+1) (k a y)) E LS LB O F0 H0 D from fin)
 obtain ⟨p',kvs',e1',hp',hr',mm⟩:=zbS_ (hL'.mono hs') hi o'
 rw [e1] at e1'; cases e1'
 obtain ⟨h',a1,a2⟩:=mm (putA m y a) (putK kvs' (KY.key y) v) (zgH_ hr' y (T.mono hs' hv'))
 unfold atD
 simp only
 rw [KY.of hv2]
 refine ⟨kvs',hp',?_,hk a y F0 H0 σ _ h' _ D a1 a2 fin⟩
 have:=Paired.length hr'
 lia
end
end L2
namespace L2
open PySem PySem.Spec PyProof.Rows
section
variable {α κ:Type} [DecidableEq κ]
theorem za4_ (m:List (κ×α)) (k j:κ) (v:α):getA (putA m k v) j=if k=j then some v else getA m j:=by
 unfold getA putA
 by_cases ha:(m.any fun q=>decide (q.1=k))=true
 ·rw [if_pos ha]
  induction m with
  | nil=>cases ha
  | cons q m ih =>
   rw [List.map_cons,List.find?_cons,List.find?_cons]
   by_cases e:q.1=k
   ·rw [if_pos e]
    by_cases e2:k=j
    ·rw [if_pos e2]
     simp [e,e2]
    ·rw [if_neg e2]
     have:¬ q.1=j:=fun z=>e2 (by rw [← e,z])
     simp only [decide_eq_false this]
     by_cases hb:(m.any fun q=>decide (q.1=k))=true
     ·have:=ih hb
      rw [if_neg e2] at this
      exact this
     ·have e3:m.map (fun q=>if q.1=k then (q.1,v) else q)=m:=by
       rw [List.map_congr_left (g:=id) (fun x hx=>?_),List.map_id]
       have:¬ x.1=k:=fun z=>hb (List.any_eq_true.mpr ⟨x,hx,by simpa using z⟩)
       simp [this]
      rw [e3]
   ·rw [if_neg e]
    have hb:(m.any fun q=>decide (q.1=k))=true:=by
     rw [List.any_cons,decide_eq_false e,Bool.false_or] at ha; exact ha
    by_cases e2:q.1=j
    ·simp only [decide_eq_true e2]
     have:¬ k=j:=fun z=>e (by rw [e2,z])
     rw [if_neg this]
    ·simp only [decide_eq_false e2]
     exact ih hb
 ·rw [if_neg ha,List.find?_append]
  by_cases e2:k=j
  ·subst e2
   have:m.find? (fun q=>decide (q.1=k))=none:=by
    rw [List.find?_eq_none]
    intro x hx z
    exact ha (List.any_eq_true.mpr ⟨x,hx,z⟩)
   rw [this,if_pos rfl]
   simp
  ·rw [if_neg e2]
   cases m.find? (fun q=>decide (q.1=j)) with
   | some z=>rfl
   | none=>simp [e2]
theorem ze0_ (m:List (κ×α)) (k:κ) (v:α):(putA m k v).length≤m.length+1:=by
 unfold putA
 split
 ·rw [List.length_map]; lia
 ·rw [List.length_append]; exact Nat.le_refl _
end
section
variable {α:Type}
end
end L2
namespace L2
open PySem PySem.Spec PyProof.Rows
section
variable {K:Fgg}{E:XK}
end
end L2
namespace Att
open PySem PySem.W PySem.Calls PyProof.Rows
theorem zjN_ {ns:List Int}(h:WData.layableAll [WData.list (ns.map WData.int)]=true):∀ x∈ns,Builtin.Int.intBits x≤1048576:=by
 intro x hx
 have h1:=layableW_arg h _ (List.mem_singleton.mpr rfl)
 have h2:=layableW_item h1 (.int x) (List.mem_map.mpr ⟨x,hx,rfl⟩)
 exact PyData.bits_of_layable (layable_int h2)
theorem attach_callB {l:OpenLaw}{n:Nat}{q:Program}{loose:List Str}{XP:(Str→Option Value)→Heap→Prop}{YP:World→Heap→Prop}{d:DefRec}
  (hn:l.most=some n) (hdf:d.params.defaults=[])
  (call:∀ (w:World) (s₀ s₁:Shared) (mg mb:Str→Option Value) (fa:Addr) (o:Obj) (pm cd doc:Value) (a:Addr) (vs:List Value) (ns:List Int),
   (∀ x∈ns,Builtin.Int.intBits x≤1048576) →
   Ground q loose [] XP w s₀ mg mb s₁.heap→YP w s₁.heap →
   s₁.heap.get? fa=some o→o.data=.func (docDef d.name d.params d.body d.scope pm cd doc)→s₁.heap.CodeRec cd d.name→mg d.name=some (.ref fa) →
   s₁.heap.get? a=some { cls:=.type "list",data:=.seq vs.toArray }→IntsAre vs ns→ns.length≤n→s₁.gens=#[] →
   codeAny (model l.prog w) callerA (.call (.ref fa) ⟨[.ref a],[]⟩) (fun r s'=>r=.ok (.ret (.bool true))∧OldK s₁.heap s'.heap∧s'.os=s₁.os∧AllBare s'.gens) s₁) :
  WalkO q loose XP YP l.row.toRowW d [] (fun f vs=>PySem.call f vs):=by
 intro w s₀ s₁ mg mb G Y fa o pm cd doc dV kV ho hd hcd hD hmg hg args vals as hpre hlay hrd hwl hlo
 obtain rfl:dV=.none:=Dflts.none hD hdf
 obtain rfl:kV=.none:=Dflts.noKw hD
 obtain ⟨a,vs,ns,rfl,rfl,hobj,hints,hlen⟩:=ziw_ hn hpre hwl
 refine enter_call (codeAny_mono (call w s₀ s₁ mg mb fa o pm cd doc a vs ns (zjN_ hlay) G Y ho (fd_plain hd) hcd hmg hobj hints hlen hg) fun r s' hq=>?_)
 obtain ⟨rfl,h2,h3,h4⟩:=hq
 exact ⟨.inl ⟨.bool true,.bool true,[],rfl,fun _=>rfl,.bool true,zia_ l _,fun _=>⟨List.Pairwise.nil,fun _ hm=>(nomatch hm)⟩⟩,h2,h3,h4⟩
end Att
namespace L2
open PySem PySem.Spec PyProof.Rows
theorem zjR_ {l:PySem.W.OpenLaw}{n k:Nat}{q:Program}{loose:List Str}{XP:(Str→Option Value)→Heap→Prop}{YP:World→Heap→Prop}{d:DefRec}{K:Params→Fgg}{CX:World→CXT}{sp:World→Sp}{x:Str}
  (hn:l.most=some n) (hn2:n≤sizeLine) (hdf:d.params.defaults=[]) (hr:Room k callerA)
  (hY:∀ (w:World) (h:Heap),YP w h→(K w.params).In h)
  (F:∀ (w:World) (mg:Str→Option Value) (fa:Addr) (h:Heap),(K w.params).In h→h.Ns mainGlobals mg→mg d.name=some (.ref fa) →
   ∃ fd:FuncData,(∀ (s:Shared) (u:Value),BindsTo s fd ⟨[u],[]⟩ [(x,u)]) ∧
    ∀ base:Heap,(K w.params).In base→base.Ns mainGlobals mg→FnOk l.prog w (K w.params) mg base (CX w) k fa fd [x] (sp w))
  (hsp:∀ (w:World) (H:Hp) (a:Addr) (ns:List Int),ns.length≤n→(∀ x∈ns,Builtin.Int.intBits x≤1048576)→Only H→SqL (K w.params) H a (ns.map V.int)→sp w [.ref a] H (fun v _=>v=.bl true) fun _ _ _=>False)
  (hCX:∀ (w:World) (H:Hp) (s:Shared) (e:Value) (s':Shared),CX w [] H s (fun _ _ _=>False) e s'→False) :
  PySem.W.WalkO q loose XP YP l.row.toRowW d [] (fun f vs=>PySem.call f vs):=by
 refine Att.attach_callB hn hdf fun w s₀ s₁ mg mb fa o pm cd doc a vs ns hbits G Y ho hd hcd hmg hobj hints hlen hg=>?_
 have KX:=hY w _ Y
 obtain ⟨fd,hb,hF⟩:=F w mg fa _ KX G.T.g hmg
 exact zjG_ KX G.T.g G.T.b G.T.builtins G.T.nolimit hg hobj hints (Nat.le_trans hlen hn2) hr hF hb (fun H hO hS=>hsp w H a ns hlen hbits hO hS) fun H e s'=>hCX w H s₁ e s'
noncomputable abbrev BitsOk (ns:List Int):Prop:=∀ x∈ns,Builtin.Int.intBits x≤1048576
end L2
namespace L2
open PySem PySem.Spec PyProof.Rows PySem.W
section
variable {α β:Type}
noncomputable def okT (lt:Nat→Nat→Bool) (n:Nat):KasT α→(α→Prop)→Prop
 | .ret a,P=>P a
 | .ask i j k,P=>i<n∧j<n∧okT lt n (k (lt i j)) P
variable {lt:Nat→Nat→Bool}{n:Nat}
theorem zcB_ {f:α→KasT β}{P:β→Prop}:∀ (t:KasT α),okT lt n t (fun a=>okT lt n (f a) P)→okT lt n (t.bind f) P
 | .ret _,h=>h
 | .ask i j k,h=>⟨h.1,h.2.1,zcB_ (k (lt i j)) h.2.2⟩
theorem zbw_ {P Q:α→Prop}(hq:∀ a,P a→Q a):∀ (t:KasT α),okT lt n t P→okT lt n t Q
 | .ret _,h=>hq _ h
 | .ask i j k,h=>⟨h.1,h.2.1,zbw_ hq (k (lt i j)) h.2.2⟩
theorem zke_ {prog:Program}{w:World}{A:Around}{κ:SortKind}{vs:List Value}{s:Shared}{P:α→Prop}{Q:α→Shared→Prop}
  (cm:∀ i j (C:Bool→Shared→Prop),i<n→j<n→C (lt i j) s→kas_ask prog w A κ vs i j C s) (hq:∀ a,P a→Q a s):∀ t:KasT α,okT lt n t P→t.kasWp (kas_ask prog w A κ vs) Q s
 | .ret a,h=>hq a h
 | .ask i j k,h=>cm i j (fun b s'=>(k b).kasWp (kas_ask prog w A κ vs) Q s') h.1 h.2.1 (zke_ cm hq (k (lt i j)) h.2.2)
structure WOr (lt:Nat→Nat→Bool):Prop where
 asym:∀ {a b},lt a b=true→lt b a=false
 tr:∀ {a b c},lt b a=false→lt c b=false→lt c a=false
noncomputable abbrev le (lt:Nat→Nat→Bool) (a b:Nat):Prop:=lt b a=false
theorem WOr.refl (w:WOr lt) (a:Nat):le lt a a:=by
 cases h:lt a a with
 | false=>exact h
 | true=>exact w.asym h
noncomputable abbrev Pm (p:Array Nat) (n:Nat):Prop:=p.toList.Perm (List.range n)
theorem zcW_ {p:Array Nat}(h:Pm p n):p.size=n:=by have:=h.length_eq; rwa [List.length_range,Array.length_toList] at this
theorem zhN_ {p:Array Nat}(h:Pm p n) {i:Nat}(hi:i<n):p.getD i 0<n:=by
 have hs:=zcW_ h
 have:p.getD i 0=p[i]'(by lia):=by simp [Array.getD,hs,hi]
 rw [this]
 exact List.mem_range.mp (h.mem_iff.mp (by simp))
theorem zbO_ {p q:Array Nat}{i j:Nat}(h:p[i]?=q[j]?):p.getD i 0=q.getD j 0:=by
 rw [Array.getD_eq_getD_getElem?,Array.getD_eq_getD_getElem?,h]
theorem zgL_ {p:Array Nat}(h:Pm p n) (i j:Nat):Pm (kas_rev p i j) n:=(Array.perm_iff_toList_perm.mp (mirror_perm p i j _)).trans h
theorem zeq_ {p:Array Nat}{i j:Nat}(hj:j≤p.size) (k:Nat):(kas_rev p i j).getD k 0=if i≤k∧k<j then p.getD (i+j-1-k) 0 else p.getD k 0:=by
 have:=getElem?_mirror_all (xs:=p) (i:=i) hj k
 split
 ·rename_i q; rw [if_pos q] at this; exact zbO_ this
 ·rename_i q; rw [if_neg q] at this; exact zbO_ this
noncomputable def Asc (lt:Nat→Nat→Bool) (p:Array Nat) (k:Nat):Prop:=∀ i j,i≤j→j<k→le lt (p.getD i 0) (p.getD j 0)
noncomputable def Dsc (lt:Nat→Nat→Bool) (p:Array Nat) (k:Nat):Prop:=∀ i j,i≤j→j<k→le lt (p.getD j 0) (p.getD i 0)
theorem Asc.one (w:WOr lt) (p:Array Nat):Asc lt p 1:=fun i j a b=>by
 obtain rfl:i=j:=by lia
 exact w.refl _
theorem zjk_ (w:WOr lt) {p:Array Nat}(hp:Pm p n):∀ (f m:Nat),1≤m→m+f≤n→Asc lt p m→okT lt n (kas_asc p f m) (fun r=>m≤r∧r≤m+f∧Asc lt p r∧(r<m+f→lt (p.getD r 0) (p.getD (r-1) 0)=true))
 | 0,m,h1,hm,ha=>⟨Nat.le_refl _,Nat.le_refl _,ha,fun h=>absurd h (Nat.lt_irrefl _)⟩
 | f+1,m,h1,hm,ha=>by
  refine ⟨zhN_ hp (by lia),zhN_ hp (by lia),?_⟩
  show okT lt n (if lt (p.getD m 0) (p.getD (m-1) 0)=true then KasT.ret m else kas_asc p f (m+1)) _
  cases h:lt (p.getD m 0) (p.getD (m-1) 0) with
  | true=>rw [if_pos rfl]; exact ⟨Nat.le_refl _,by lia,ha,fun _=>h⟩
  | false =>
   rw [if_neg (by decide)]
   refine zbw_ (fun r q=>⟨by lia,by lia,q.2.2.1,fun z=>q.2.2.2 (by lia)⟩) _ (zjk_ w hp f (m+1) (by lia) (by lia) fun i j hij hj=>?_)
   by_cases e:j<m
   ·exact ha i j hij e
   ·obtain rfl:j=m:=by lia
    by_cases e2:i=j
    ·subst e2; exact w.refl _
    ·exact w.tr (ha i (j-1) (by lia) (by lia)) h
theorem zkS_ (w:WOr lt) {p:Array Nat}{m q:Nat}(hm:m≤p.size) (hq:q+1≤m) (hd:Dsc lt p m) (he:∀ i,m-(q+1)≤i→i<m→le lt (p.getD i 0) (p.getD (m-1) 0)):Dsc lt (kas_rev p (m-(q+1)) m) m:=by
 intro i j hij hj
 have r1:=zeq_ (p:=p) (i:=m-(q+1)) hm i
 have r2:=zeq_ (p:=p) (i:=m-(q+1)) hm j
 show lt _ _=false
 rw [r1,r2]
 by_cases a:m-(q+1)≤i
 ·rw [if_pos ⟨a,by lia⟩,if_pos ⟨by lia,hj⟩]
  exact w.tr (he _ (by lia) (by lia)) (hd _ (m-1) (by lia) (by lia))
 ·rw [if_neg (fun z=>a z.1)]
  by_cases b:m-(q+1)≤j
  ·rw [if_pos ⟨b,hj⟩]; exact hd _ _ (by lia) (by lia)
  ·rw [if_neg (fun z=>b z.1)]; exact hd _ _ hij hj
theorem zgO_ (w:WOr lt):∀ (f:Nat) (p:Array Nat) (m q:Nat),Pm p n→q+1≤m→m+f≤n→Dsc lt p m→(∀ i,m-(q+1)≤i→i<m→le lt (p.getD i 0) (p.getD (m-1) 0)) →
  okT lt n (kas_desc f p m q) (fun r=>Pm r.1 n∧r.2.2+1≤r.2.1∧r.2.1≤m+f∧Dsc lt r.1 r.2.1∧∀ i,r.2.1-(r.2.2+1)≤i→i<r.2.1→le lt (r.1.getD i 0) (r.1.getD (r.2.1-1) 0))
 | 0,p,m,q,hp,h1,hm,hd,he=>⟨hp,h1,Nat.le_refl _,hd,he⟩
 | f+1,p,m,q,hp,h1,hm,hd,he=>by
  have hsz:=zcW_ hp
  refine ⟨zhN_ hp (by lia),zhN_ hp (by lia),?_⟩
  cases h:lt (p.getD m 0) (p.getD (m-1) 0) with
  | true =>
   dsimp only
   rw [if_pos rfl]
   have fin:∀ p1:Array Nat,Pm p1 n→Dsc lt p1 m→p1.getD m 0=p.getD m 0→(∀ i,i<m→le lt (p.getD (m-1) 0) (p1.getD i 0))→okT lt n (kas_desc f p1 (m+1) 0) (fun r=>Pm r.1 n∧r.2.2+1≤r.2.1∧r.2.1≤m+(f+1)∧Dsc lt r.1 r.2.1∧∀ i,r.2.1-(r.2.2+1)≤i→i<r.2.1→le lt (r.1.getD i 0) (r.1.getD (r.2.1-1) 0)):=by
    intro p1 hp1 hd1 e1 hb
    refine zbw_ (fun r q=>⟨q.1,q.2.1,by lia,q.2.2.2⟩) _ (zgO_ w f p1 (m+1) 0 hp1 (by lia) (by lia) (fun i j hij hj=>?_) fun i a b=>?_)
    ·by_cases e:j<m
     ·exact hd1 i j hij e
     ·obtain rfl:j=m:=by lia
      by_cases e2:i=j
      ·subst e2; exact w.refl _
      ·rw [e1]; exact w.tr (w.asym h) (hb i (by lia))
    ·obtain rfl:i=m:=by lia
     exact w.refl _
   by_cases hq:q > 0
   ·rw [if_pos hq]
    refine fin _ (zgL_ hp _ _) (zkS_ w (by lia) h1 hd he) ?_ fun i hi=>?_
    ·rw [zeq_ (by lia),if_neg (by lia)]
    ·rw [zeq_ (by lia)]
     split
     ·exact hd _ _ (by lia) (by lia)
     ·exact hd _ _ (by lia) (by lia)
   ·rw [if_neg hq]
    exact fin p hp hd rfl fun i hi=>hd _ _ (by lia) (by lia)
  | false =>
   dsimp only
   rw [if_neg (by decide)]
   refine ⟨zhN_ hp (by lia),zhN_ hp (by lia),?_⟩
   cases h2:lt (p.getD (m-1) 0) (p.getD m 0) with
   | true=>dsimp only; rw [if_pos rfl]; exact ⟨hp,h1,by show m≤m+(f+1); lia,hd,he⟩
   | false =>
    dsimp only
    rw [if_neg (by decide)]
    refine zbw_ (fun r q=>⟨q.1,q.2.1,by lia,q.2.2.2⟩) _ (zgO_ w f p (m+1) (q+1) hp (by lia) (by lia) (fun i j hij hj=>?_) fun i a b=>?_)
    ·by_cases e:j<m
     ·exact hd i j hij e
     ·obtain rfl:j=m:=by lia
      by_cases e2:i=j
      ·subst e2; exact w.refl _
      ·exact w.tr h2 (hd i (j-1) (by lia) (by lia))
    ·show le lt (p.getD i 0) (p.getD m 0)
     by_cases e:i=m
     ·subst e; exact w.refl _
     ·exact w.tr (he i (by lia) (by lia)) h
noncomputable abbrev Got (lt:Nat→Nat→Bool) (n:Nat) (r:Nat×Array Nat):Prop:=Pm r.2 n∧r.1≤n∧Asc lt r.2 r.1
theorem zgz_ (w:WOr lt) {p:Array Nat}{m:Nat}(hp:Pm p n) (h1:1≤m) (hm:m≤n) (hd:Dsc lt p m):okT lt n (kas_tail3 m n p) (Got lt n):=by
 have hsz:=zcW_ hp
 refine zcB_ _ (zbw_ (fun r q=>?_) _ (zjk_ w (zgL_ hp 0 m) (n-m) m h1 (by lia) fun i j hij hj=>?_))
 ·exact ⟨zgL_ hp 0 m,by show r≤n; lia,q.2.2.1⟩
 ·rw [zeq_ (by lia),zeq_ (by lia),if_pos (by lia),if_pos (by lia)]
  exact hd _ _ (by lia) (by lia)
theorem zdR_ (w:WOr lt) {p:Array Nat}{m:Nat}(hp:Pm p n) (hm:m+1≤n) (hd:Dsc lt p (m+1)):okT lt n (kas_descPart m n p) (Got lt n):=by
 refine zcB_ _ (zbw_ (fun r q=>?_) _ (zgO_ w (n-(m+1)) p (m+1) 0 hp (by lia) (by lia) hd fun i a b=>?_))
 ·obtain ⟨q1,q2,q3,q4,q5⟩:=q
  have hsz:=zcW_ q1
  by_cases z:r.2.2 > 0
  ·rw [if_pos z]
   exact zgz_ w (zgL_ q1 _ _) (by lia) (by lia) (zkS_ w (by lia) q2 q4 q5)
  ·rw [if_neg z]
   exact zgz_ w q1 (by lia) (by lia) q4
 ·obtain rfl:i=m:=by lia
  exact w.refl _
theorem zjg_ (w:WOr lt) {p:Array Nat}(hp:Pm p n) (hn:1≤n):okT lt n (kas_count n p) (Got lt n):=by
 have hsz:=zcW_ hp
 refine zcB_ _ (zbw_ (fun m q=>?_) _ (zjk_ w hp (n-1) 1 (Nat.le_refl _) (by lia) (Asc.one w p)))
 obtain ⟨q1,q2,q3,q4⟩:=q
 by_cases e:m=n
 ·rw [if_pos (by simp [e])]; exact ⟨hp,by show m≤n; lia,q3⟩
 ·rw [if_neg (by simp [e])]
  have hl:=q4 (by lia)
  by_cases z:m > 1
  ·rw [if_pos z]
   refine ⟨zhN_ hp (by lia),zhN_ hp (by lia),?_⟩
   cases c:lt (p.getD 0 0) (p.getD (m-1) 0) with
   | true=>dsimp only; rw [if_pos rfl]; exact ⟨hp,by show m≤n; lia,q3⟩
   | false =>
    dsimp only
    rw [if_neg (by decide)]
    have hall:∀ a b,a<m→b<m→le lt (p.getD a 0) (p.getD b 0):=fun a b ha hb=>w.tr (w.tr (q3 a (m-1) (by lia) (by lia)) c) (q3 0 b (by lia) hb)
    refine zdR_ w (zgL_ hp 0 m) (by lia) fun i j hij hj=>?_
    rw [zeq_ (by lia),zeq_ (by lia)]
    by_cases a:j<m
    ·rw [if_pos (by lia),if_pos (by lia)]; exact hall _ _ (by lia) (by lia)
    ·obtain rfl:j=m:=by lia
     rw [if_neg (by lia)]
     by_cases b:i<j
     ·rw [if_pos (by lia)]; exact w.tr (w.asym hl) (hall _ _ (by lia) (by lia))
     ·obtain rfl:i=j:=by lia
      rw [if_neg (by lia)]; exact w.refl _
  ·rw [if_neg z]
   obtain rfl:m=1:=by lia
   refine zdR_ w hp (by lia) fun i j hij hj=>?_
   by_cases a:i=j
   ·subst a; exact w.refl _
   ·obtain rfl:i=0:=by lia
    obtain rfl:j=1:=by lia
    exact w.asym hl
theorem zfe_ (w:WOr lt) {p:Array Nat}{k:Nat}(hp:Pm p n) (hk:k<n) (ha:Asc lt p k):∀ (f l r:Nat),l≤r→r≤k→r-l≤f→(∀ i,i<l→le lt (p.getD i 0) (p.getD k 0))→(∀ i,r≤i→i<k→le lt (p.getD k 0) (p.getD i 0)) →
  okT lt n (kas_place p k f l r) (fun m=>m≤k∧(∀ i,i<m→le lt (p.getD i 0) (p.getD k 0))∧∀ i,m≤i→i<k→le lt (p.getD k 0) (p.getD i 0))
 | 0,l,r,h1,h2,h3,h4,h5=>⟨by show l≤k; lia,h4,fun i a b=>h5 i (by lia) b⟩
 | f+1,l,r,h1,h2,h3,h4,h5=>by
  unfold kas_place
  by_cases e:l ≥ r
  ·rw [if_pos e]; exact ⟨by show l≤k; lia,h4,fun i a b=>h5 i (by lia) b⟩
  ·rw [if_neg e]
   refine ⟨zhN_ hp hk,zhN_ hp (by lia),?_⟩
   cases c:lt (p.getD k 0) (p.getD ((l+r) / 2) 0) with
   | true =>
    dsimp only
    rw [if_pos rfl]
    refine zfe_ w hp hk ha f l ((l+r) / 2) (by lia) (by lia) (by lia) h4 fun i a b=>?_
    exact w.tr (w.asym c) (ha _ _ a b)
   | false =>
    dsimp only
    rw [if_neg (by decide)]
    refine zfe_ w hp hk ha f ((l+r) / 2+1) r (by lia) h2 (by lia) (fun i hi=>?_) h5
    exact w.tr (ha i ((l+r) / 2) (by lia) (by lia)) c
theorem zkw_ (w:WOr lt):∀ (f:Nat) (p:Array Nat) (k:Nat),Pm p n→k+f=n→Asc lt p k→okT lt n (kas_bin f p k) (fun r=>Pm r n∧Asc lt r n)
 | 0,p,k,hp,hk,ha=>⟨hp,(show k=n by lia) ▸ ha⟩
 | f+1,p,k,hp,hk,ha=>by
  have hsz:=zcW_ hp
  refine zcB_ _ (zbw_ (fun l q=>?_) _ (zfe_ w hp (by lia) ha k 0 k (by lia) (Nat.le_refl _) (by lia) (fun i hi=>absurd hi (by lia)) fun i a b=>absurd b (by lia)))
  obtain ⟨q1,q2,q3⟩:=q
  have hb:∀ i,(bubble p k (k-l)).getD i 0=if i=l then p.getD k 0 else if l<i∧i≤k then p.getD (i-1) 0 else p.getD i 0:=fun i=>by
   have:=getElem?_bubble (xs:=p) (src:=k) (by lia) (k-l) (by lia) i
   rw [show k-(k-l)=l by lia] at this
   split
   ·rename_i z; rw [if_pos z] at this; exact zbO_ this
   ·rename_i z
    rw [if_neg z] at this
    split
    ·rename_i y; rw [if_pos y] at this; exact zbO_ this
    ·rename_i y; rw [if_neg y] at this; exact zbO_ this
  refine zkw_ w f _ (k+1) ((Array.perm_iff_toList_perm.mp (bubble_perm p k _)).trans hp) (by lia) fun i j hij hj=>?_
  rw [hb,hb]
  by_cases e1:i=l
  ·rw [if_pos e1]
   by_cases e2:j=l
   ·rw [if_pos e2]; exact w.refl _
   ·rw [if_neg e2,if_pos (by lia)]; exact q3 _ (by lia) (by lia)
  ·rw [if_neg e1]
   by_cases e2:j=l
   ·rw [if_pos e2,if_neg (by lia)]; exact q2 _ (by lia)
   ·rw [if_neg e2]
    by_cases e3:l<i
    ·rw [if_pos (by lia),if_pos (by lia)]; exact ha _ _ (by lia) (by lia)
    ·rw [if_neg (by lia)]
     by_cases e4:l<j
     ·rw [if_pos (by lia)]; exact ha _ _ (by lia) (by lia)
     ·rw [if_neg (by lia)]; exact ha _ _ hij (by lia)
theorem zkR_ (w:WOr lt) (hn:1≤n):okT lt n (kas_sort n) (fun r=>Pm r n∧Asc lt r n):=by
 have h0:Pm (List.toArray (List.range n)) n:=by simp [Pm]
 refine zcB_ _ (zbw_ (fun r q=>?_) _ (zjg_ w h0 hn))
 obtain ⟨q1,q2,q3⟩:=q
 by_cases e:r.1<n
 ·rw [if_pos e]
  refine zkw_ w _ _ _ q1 (by lia) ?_
  by_cases e1:r.1=0
  ·rw [e1]; exact Asc.one w _
  ·rw [Nat.max_eq_left (by lia)]; exact q3
 ·rw [if_neg e]
  obtain e:r.1=n:=by lia
  rw [e] at q3
  exact ⟨q1,q3⟩
end
section
variable {prog:Program}{w:World}{A:Around}{E:Value→Shared→Prop}{s:Shared}{vs:List Value}{lt:Nat→Nat→Bool}
noncomputable def CmpAt (prog:Program) (w:World) (vs:List Value) (lt:Nat→Nat→Bool) (s:Shared):Prop :=
 ∃ κ,(∀ (A:Around) (C:SortKind→Shared→Prop),C κ s→wpAny (model prog w) A (keyKind' vs.toArray) C (fun _ _=>False) s) ∧
  ∀ (A:Around) i j (C:Bool→Shared→Prop),i<vs.length→j<vs.length→C (lt i j) s→kas_ask prog w A κ vs i j C s
noncomputable def Srtd (lt:Nat→Nat→Bool) (n:Nat) (p:List Nat):Prop:=p.Perm (List.range n)∧p.Pairwise (le lt)
theorem zk3_ {n:Nat}{p:Array Nat}(h:Pm p n∧Asc lt p n):Srtd lt n p.toList:=by
 refine ⟨h.1,List.pairwise_iff_getElem.mpr fun i j hi hj hij=>?_⟩
 have hs:=zcW_ h.1
 rw [Array.length_toList] at hi hj
 have:=h.2 i j (by lia) (by lia)
 have e:∀ k (hk:k<p.size),p.getD k 0=p.toList[k]'(by simpa using hk):=fun k hk=>by simp [Array.getD,hk]
 rwa [e i hi,e j hj] at this
theorem zgG_ {a:Addr}{n:Nat}{P:PySem.Fin→Shared→Prop}(ho:s.heap.get? a=some (seqObj "list" vs.toArray n)) (h64:vs.length<64) (wo:WOr lt)
  (kk:2≤vs.length→∀ h':Heap,(∀ b o,b≠a→s.heap.get? b=some o→h'.get? b=some o)→CmpAt prog w vs lt { s with heap:=h' })
  (q:∀ (h':Heap) c (p:List Nat),(∀ b o,b≠a→s.heap.get? b=some o→h'.get? b=some o)→Srtd lt vs.length p→h'.get? a=some (seqObj "list" (p.map fun i=>vs.getD i Value.none).toArray c)→P (.done (.ret .none)) { s with heap:=h' }) :
  wpAny (model prog w) A (Builtin.«list.sort» ⟨[.ref a],[]⟩) P E s:=by
 have ha:a<s.heap.objs.size:=Heap.lt_size ho
 have s1:=Heap.SameBut.update s.heap a (Obj.mapSeq fun _=>(#[]:Array Value))
 obtain ⟨e1,ho1⟩:∃ e1,(s.heap.update a (Obj.mapSeq fun _=>(#[]:Array Value))).get? a=some (seqObj "list" #[] e1):=⟨_,get?_update_seq ho fun _=>#[]⟩
 have kp:∀ b o,b≠a→s.heap.get? b=some o→(((s.heap.update a (Obj.mapSeq fun _=>(#[]:Array Value))).push (seqObj "tuple" vs.toArray 0)).push (seqObj "list" #[] 0)).get? b=some o:=fun b o hb e =>
  Heap.get?_push_of_some _ (Heap.get?_push_of_some _ ((s1.2 b hb).trans e))
 have na:(((s.heap.update a (Obj.mapSeq fun _=>(#[]:Array Value))).push (seqObj "tuple" vs.toArray 0)).push (seqObj "list" #[] 0)).get? a=some (seqObj "list" #[] e1):=Heap.get?_push_of_some _ (Heap.get?_push_of_some _ ho1)
 rw [list_sort_plain]
 refine wpAny_bind (listItems_at ho rfl ?_)
 refine wpAny_bind (listUpdate_at ho rfl ?_ (by rw [List.size_toArray,sizeLine_eq]; lia) (Nat.zero_le _))
 refine wpAny_bind (seqEpoch_at ho1 rfl ?_)
 refine wpAny_bind (wpAny_newTuple ?_ (by show vs.length≤_; rw [sizeLine_eq]; lia))
 refine wpAny_bind (wpAny_newList ?_ (Nat.zero_le _))
 refine wpAny_holding ?_
 show wpAny (model prog w) A _ P E { s with heap:=((s.heap.update a (Obj.mapSeq fun _=>(#[]:Array Value))).push (seqObj "tuple" vs.toArray 0)).push (seqObj "list" #[] 0) }
 generalize hh:((s.heap.update a (Obj.mapSeq fun _=>(#[]:Array Value))).push (seqObj "tuple" vs.toArray 0)).push (seqObj "list" #[] 0)=h2 at kp na
 dsimp only
 have fin:∀ (st':SortSt) (p:List Nat),(arrOf st').map (·.2)=(p.map fun i=>vs.getD i Value.none).toArray→failedOf st'=none→Srtd lt vs.length p→wpAny (model prog w) A (do
   let touched:=(← seqEpoch a) != e1
   Builtin.List.listUpdate (.ref a) fun _=>(arrOf st').map (·.2)
   if let some e:=failedOf st' then rule "list.sort.comparison-raised"; throw e
   if touched then rule "list.sort.modified"; raiseError "ValueError" "list modified during sort"
   ret .none) P E { s with heap:=h2 }:=by
  intro st' p hout hf hp
  rw [hout,hf]
  have hsz:(List.toArray (p.map fun i=>vs.getD i Value.none)).size=vs.length:=by rw [List.size_toArray,List.length_map,hp.1.length_eq,List.length_range]
  have s2:=Heap.SameBut.update h2 a (Obj.mapSeq fun _=>List.toArray (p.map fun i=>vs.getD i Value.none))
  obtain ⟨c2,hc2⟩:∃ c2,(h2.update a (Obj.mapSeq fun _=>List.toArray (p.map fun i=>vs.getD i Value.none))).get? a=some (seqObj "list" (List.toArray (p.map fun i=>vs.getD i Value.none)) c2):=⟨_,get?_update_seq na fun _=>List.toArray (p.map fun i=>vs.getD i Value.none)⟩
  refine wpAny_bind (seqEpoch_at (s:={ s with heap:=h2 }) na rfl ?_)
  refine wpAny_bind (listUpdate_at (s:={ s with heap:=h2 }) na rfl ?_ (Nat.zero_le _) (Nat.le_trans (Nat.le_of_eq hsz) (by rw [sizeLine_eq]; lia)))
  simp only [bne_self_eq_false,Bool.false_eq_true,if_false]
  exact wpAny_pure (q _ c2 p (fun b o hb e=>(s2.2 b hb).trans (kp b o hb e)) hp hc2)
 by_cases hn2:2≤vs.length
 ·have hn2':¬ vs.toArray.size<2:=by rw [List.size_toArray]; lia
  rw [if_neg hn2',if_neg hn2']
  obtain ⟨κ,k1,k2⟩:=kk hn2 h2 kp
  refine wpAny_bind (wpAny_mono (k1 A (fun κ' s'=>κ'=κ∧s'={ s with heap:=h2 }) ⟨rfl,rfl⟩) (fun κ' s0 hk=>?_) fun _ _ x=>x.elim)
  obtain ⟨rfl,rfl⟩:=hk
  refine wpAny_bind (wpAny_mono (kat_run (Q:=fun st' s'=>s'={ s with heap:=h2 }∧∃ p:Array Nat,p.size=vs.length∧arrOf st'=p.map (kas_item (vs.toArray.zip vs.toArray))∧failedOf st'=none∧(Pm p vs.length∧Asc lt p vs.length)) (G:=fun p s'=>s'={ s with heap:=h2 }∧(Pm p vs.length∧Asc lt p vs.length))
   rfl hn2 h64 (fun p' st' s' a1 a2 a3 a4=>⟨a4.1,p',a1,a2,a3,a4.2⟩) (zke_ (P:=fun r=>Pm r vs.length∧Asc lt r vs.length) (fun i j C hi hj hc=>k2 A i j C hi hj hc) (fun p hp=>⟨rfl,hp⟩) _ (zkR_ wo (by lia)))) ?_ fun _ _ e=>e)
  rintro ⟨⟨⟩,st'⟩ s' ⟨rfl,p,hp,har,hf,hpp⟩
  exact fin st' p.toList (kat_snds rfl har) hf (zk3_ hpp)
 ·have hn2':vs.toArray.size<2:=by rw [List.size_toArray]; lia
  rw [if_pos hn2',if_pos hn2']
  refine wpAny_bind (wpAny_pure ?_)
  refine wpAny_bind (wpAny_pure ?_)
  refine fin _ (List.range vs.length) ?_ rfl ⟨List.Perm.refl _,?_⟩
  ·show ((vs.toArray.zip vs.toArray).map (·.2))=_
   apply Array.toList_inj.mp
   rw [Array.toList_map,Array.toList_zip]
   have e:∀ l:List Value,(l.zip l).map (·.2)=l:=fun l=>by
    induction l with
    | nil=>rfl
    | cons x l ih=>rw [List.zip_cons_cons,List.map_cons,ih]
   show (vs.zip vs).map (·.2)=(List.range vs.length).map fun i=>vs.getD i Value.none
   rw [e]
   apply List.ext_getElem?
   intro i
   by_cases hi:i<vs.length
   ·simp [hi]
   ·simp [List.getElem?_eq_none,hi,Nat.le_of_not_lt hi]
  ·rcases (show vs.length=0∨vs.length=1 by lia) with e | e
   ·rw [e]; exact .nil
   ·rw [e]; exact List.pairwise_singleton _ _
theorem zjF_ {l:Addr}{Q:Value→Shared→Prop}(hl:s.heap.IsList l vs.toArray) (h64:vs.length<64) (wo:WOr lt)
  (kk:2≤vs.length→∀ h':Heap,(∀ b o,s.heap.get? b=some o→h'.get? b=some o)→CmpAt prog w vs lt { s with heap:=h' })
  (q:∀ (h':Heap) c (p:List Nat),(∀ b o,s.heap.get? b=some o→h'.get? b=some o)→Srtd lt vs.length p→h'.get? (s.heap.objs.size+1)=some (seqObj "list" (p.map fun i=>vs.getD i Value.none).toArray c)→Q (.ref (s.heap.objs.size+1)) { s with heap:=h' }) :
  wpAny (model prog w) A (call (.builtin "sorted") [.ref l]) Q E s:=by
 refine Calls.call_function_entry kind_sorted plain_sorted entry_sorted (args_sorted1 _) ?_
 unfold Builtin.«sorted»
 refine wpAny_bind (m:=checkCount "sorted" 1 1 _) (wpAny_pure ?_)
 refine wpAny_bind (collect_list hl ?_ (by rw [sizeLine_eq]; lia))
 refine wpAny_bind (wpAny_newList ?_ (by rw [sizeLine_eq]; lia))
 have hsz:((s.heap.push (seqObj "list" #[] 0)).update s.heap.objs.size (Obj.mapSeq (·++vs.toArray))).objs.size=s.heap.objs.size+1:=by
  rw [Heap.size_update,size_push']
 have hoL:(((s.heap.push (seqObj "list" #[] 0)).update s.heap.objs.size (Obj.mapSeq (·++vs.toArray))).push (seqObj "list" vs.toArray 0)).get? (s.heap.objs.size+1)=some (seqObj "list" vs.toArray 0):=by
  rw [← hsz]; exact Heap.get?_push_size _ rfl
 have keep:∀ b o,s.heap.get? b=some o→(((s.heap.push (seqObj "list" #[] 0)).update s.heap.objs.size (Obj.mapSeq (·++vs.toArray))).push (seqObj "list" vs.toArray 0)).get? b=some o:=fun b o q=>by
  have hlt:b<s.heap.objs.size:=Heap.lt_size q
  rw [Heap.get?_push_ne _ _ _ (by rw [hsz]; exact Nat.ne_of_lt (Nat.lt_succ_of_lt hlt)),Heap.get?_update_ne _ _ _ _ (Nat.ne_of_lt hlt),Heap.get?_push_ne _ _ _ (Nat.ne_of_lt hlt)]
  exact q
 show wpAny _ _ _ _ _ { s with heap:=((s.heap.push (seqObj "list" #[] 0)).update s.heap.objs.size (Obj.mapSeq (·++vs.toArray))).push (seqObj "list" vs.toArray 0) }
 rw [hsz]
 have keep2:∀ (h':Heap),(∀ b o,b≠s.heap.objs.size+1→(((s.heap.push (seqObj "list" #[] 0)).update s.heap.objs.size (Obj.mapSeq (·++vs.toArray))).push (seqObj "list" vs.toArray 0)).get? b=some o→h'.get? b=some o)→∀ b o,s.heap.get? b=some o→h'.get? b=some o:=fun h' hk b o e =>
  hk b o (Nat.ne_of_lt (Nat.lt_succ_of_lt (Heap.lt_size e))) (keep b o e)
 refine wpAny_bind (wpAny_holding (wpAny_call_entry slot_list_sort ⟨_,hoL,rfl⟩ entry_list_sort ?body (args_list_sort _)))
 case body =>
  refine zgG_ (s:={ s with heap:=((s.heap.push (seqObj "list" #[] 0)).update s.heap.objs.size (Obj.mapSeq (·++vs.toArray))).push (seqObj "list" vs.toArray 0) }) hoL h64 wo (fun h2 h' hk=>kk h2 h' (keep2 h' hk)) fun h' c p hk hp ho'=>?_
  exact ⟨_,rfl,wpAny_pure ⟨_,rfl,q h' c p (keep2 h' hk) hp ho'⟩⟩
end
end L2
namespace L2
open PySem PySem.Spec PyProof.Rows PySem.W
noncomputable def knd:V→Nat | .int _=>1 | .str _=>2 | _=>0
noncomputable def ltF:V→V→Bool | .int a,.int b=>decide (a<b) | .str a,.str b=>decide (a.cps.toList<b.cps.toList) | _,_=>false
noncomputable def eqF:V→V→Bool | .int a,.int b=>a == b | .str a,.str b=>decide (a=b) | _,_=>false
noncomputable def lexV:List V→List V→Bool
 | x::xs,y::ys=>if eqF x y then lexV xs ys else ltF x y
 | _,_=>false
section
variable {prog:Program}{w:World}{A:Around}{E:Value→Shared→Prop}{s:Shared}{Q:Bool→Shared→Prop}
theorem zbz_ {x:V}(h:knd x≠0):(∃ i,x=.int i)∨∃ z,x=.str z:=by
 cases x<;>first | exact .inl ⟨_,rfl⟩ | exact .inr ⟨_,rfl⟩ | exact absurd rfl h
theorem zgQ_ {x y:V}{u v:Value}{b:Bool}(hx:RelV x u) (hy:RelV y v) (hk:knd x=knd y) (h0:knd x≠0) (q:Q (ltF x y) s):wpAny (model prog w) A (oneLt' b u v) Q E s:=by
 rcases zbz_ h0 with ⟨i,rfl⟩ | ⟨z,rfl⟩
 ·rcases zbz_ (x:=y) (fun e=>h0 (hk.trans e)) with ⟨j,rfl⟩ | ⟨z,rfl⟩
  ·obtain ⟨t,rfl⟩:=hx
   obtain ⟨t',rfl⟩:=hy
   cases b with
   | true=>exact oneLt_int q
   | false=>exact kat_one _ _ (PyProof.Rows.lt_int q)
  ·cases hk
 ·rcases zbz_ (x:=y) (fun e=>h0 (hk.trans e)) with ⟨j,rfl⟩ | ⟨z',rfl⟩
  ·cases hk
  ·obtain ⟨t,rfl⟩:=hx
   obtain ⟨t',rfl⟩:=hy
   cases b with
   | true=>exact oneLt_str q
   | false=>exact kat_one _ _ (PyProof.Rows.lt_str q)
theorem eq_F {x y:V}{u v:Value}(hx:RelV x u) (hy:RelV y v) (hk:knd x=knd y) (h0:knd x≠0) (q:Q (eqF x y) s):wpAny (model prog w) A (eqBool u v) Q E s:=by
 rcases zbz_ h0 with ⟨i,rfl⟩ | ⟨z,rfl⟩
 ·rcases zbz_ (x:=y) (fun e=>h0 (hk.trans e)) with ⟨j,rfl⟩ | ⟨z,rfl⟩
  ·obtain ⟨t,rfl⟩:=hx
   obtain ⟨t',rfl⟩:=hy
   exact wpAny_eqBool_int q
  ·cases hk
 ·rcases zbz_ (x:=y) (fun e=>h0 (hk.trans e)) with ⟨j,rfl⟩ | ⟨z',rfl⟩
  ·cases hk
  ·obtain ⟨t,rfl⟩:=hx
   obtain ⟨t',rfl⟩:=hy
   exact wpAny_eqBool_str q
theorem zgu_ {b:Bool}:∀ {xs ys:List V}{us vs:List Value}(i:Nat),Vals xs us→Vals ys vs→xs.map knd=ys.map knd→(0:Nat)∉xs.map knd→Q (lexV xs ys) s→KatLex prog w A b false Q (us.zip vs) i s
 | [],[],_,_,i,.nil,.nil,_,_,q=>q
 | x::xs,[],_,_,i,_,_,hk,_,_=>by simp at hk
 | [],x::xs,_,_,i,_,_,hk,_,_=>by simp at hk
 | x::xs,y::ys,_,_,i,.cons hx r,.cons hy r',hk,h0,q=>by
  rw [List.map_cons,List.map_cons] at hk
  injection hk with k1 k2
  rw [List.map_cons] at h0
  have z1:knd x≠0:=fun e=>h0 (by rw [e]; exact List.mem_cons_self ..)
  have z2:(0:Nat)∉xs.map knd:=fun e=>h0 (List.mem_cons_of_mem _ e)
  rw [List.zip_cons_cons]
  refine kat_cons (eq_F hx hy k1 z1 (kat_go (fun e=>kat_yes ?_) fun e=>kat_no ?_))
  ·refine zgu_ (i+1) r r' k2 z2 ?_
   unfold lexV at q
   rw [e,if_pos rfl] at q
   exact q
  ·refine zgQ_ hx hy k1 z1 ?_
   unfold lexV at q
   rw [e,if_neg (by decide)] at q
   exact q
end
noncomputable def SrtV (K:Fgg) (H:Hp) (ys:List V) (lt:Nat→Nat→Bool):Prop :=
 (∃ k,k≠0∧(∀ y∈ys,knd y=k)∧∀ i j x y,ys[i]?=some x→ys[j]?=some y→lt i j=ltF x y) ∨
 (∃ (rows:Nat→List V) (ks:List Nat),ks≠[]∧0∉ks∧(∀ i y,ys[i]?=some y→∃ a,y=.ref a∧SqT K H a (rows i)∧(rows i).map knd=ks)∧∀ i j,i<ys.length→j<ys.length→lt i j=lexV (rows i) (rows j))
noncomputable def mSorted (K:Fgg):List V→Hp→VK→Prop:=fun xs H Q=>match xs with
 | [.ref p]=>∃ ys lt,SqL K H p ys∧ys.length<64∧WOr lt∧SrtV K H ys lt∧∀ idx,Srtd lt ys.length idx→∀ l,H l=none→Q (.ref l) (upd H l (.lst (idx.map fun i=>ys.getD i .non)))
 | _=>False
noncomputable def tyK (k:Nat):Value:=if k=1 then .type "int" else .type "str"
theorem zgK_ {M:Model}{h:Heap}{x:V}{u:Value}{k:Nat}(r:RelV x u) (hk:knd x=k) (h0:k≠0):Looks M h (typeOf u) (tyK k):=by
 subst hk
 rcases zbz_ h0 with ⟨i,rfl⟩ | ⟨z,rfl⟩
 ·obtain ⟨t,rfl⟩:=r
  exact .now
 ·obtain ⟨t,rfl⟩:=r
  exact .now
theorem zjh_ (k:Nat):(tyK k != Value.type "tuple")=true:=by unfold tyK; split<;>decide +kernel
theorem zjY_ (k:Nat):(tyK k == tyK k)=true:=by unfold tyK; split<;>decide +kernel
theorem zbd_ {ys:List V}{us:List Value}(r:Vals ys us) {i:Nat}(h:i<us.length):∃ y,ys[i]?=some y∧RelV y (us.getD i Value.none)∧y∈ys:=by
 have hl:=Vals.length r
 have e:ys[i]?=some ys[i]:=List.getElem?_eq_getElem (by lia)
 obtain ⟨u,eu,ru⟩:=Vals.get r e
 refine ⟨_,e,?_,List.getElem_mem _⟩
 rw [List.getD_eq_getElem?_getD,eu]
 exact ru
theorem zfo_ {ys:List V}{us:List Value}(r:Vals ys us):∀ (idx:List Nat),(∀ i∈idx,i<us.length)→Vals (idx.map fun i=>ys.getD i .non) (idx.map fun i=>us.getD i Value.none)
 | [],_=>.nil
 | i::idx,h=>by
  obtain ⟨y,e,ry,_⟩:=zbd_ r (h i (List.mem_cons_self ..))
  refine .cons ?_ (zfo_ r idx fun j hj=>h j (List.mem_cons_of_mem _ hj))
  show RelV (ys.getD i V.non) _
  rw [List.getD_eq_getElem?_getD,e]
  exact ry
section
variable {X:Cx}
theorem zfa_:CallR X (.builtin "sorted") (mSorted X.K):=by
 intro pins s σ H xs us Q I r h
 unfold mSorted at h
 split at h
 ·rename_i p
  obtain ⟨ys,lt,hp,h64,wo,sv,q⟩:=h
  obtain ⟨u,rfl,rx⟩:=vals1 r
  cases rx
  obtain ⟨its,r',pl,hz⟩:=I.list hp
  have hlen:=Vals.length r'
  refine zjF_ pl.isList (by lia) wo (fun h2 h' kp=>?_) fun h' c idx kp hi ho=>?_
  ·rcases sv with ⟨k,hk,hall,hlt⟩ | ⟨rows,ks,hne,h0,hrow,hlt⟩
   ·refine ⟨oneType',fun A C hC=>?_,fun A i j C hi hj hC=>?_⟩
    ·refine kas_kind h2 (T:=tyK k) (fun v hv=>?_) (zjh_ k) (zjY_ k) hC
     obtain ⟨i,hi⟩:=List.mem_iff_getElem?.mp hv
     obtain ⟨hi',_⟩:=List.getElem?_eq_some_iff.mp hi
     obtain ⟨y,_,ry,hy⟩:=zbd_ r' hi'
     rw [List.getD_eq_getElem?_getD,hi] at ry
     exact zgK_ ry (hall y hy) hk
    ·obtain ⟨x,ex,rx,hx⟩:=zbd_ r' hi
     obtain ⟨y,ey,ry,hy⟩:=zbd_ r' hj
     rw [hlt i j x y ex ey] at hC
     unfold kas_ask
     rw [keyLt'_oneType]
     exact zgQ_ rx ry (by rw [hall x hx,hall y hy]) (by rw [hall x hx]; exact hk) hC
   ·have tup:∀ i,i<its.length→∃ (a:Addr) (o:Obj) (ts:List Value) (n:Nat),its[i]?=some (.ref a)∧h'.get? a=some o∧o.cls=.type "tuple" ∧ o.data=.seq ts.toArray n∧Vals (rows i) ts∧(rows i).map knd=ks:=fun i hi=>by
     obtain ⟨y,e,ry,_⟩:=zbd_ r' hi
     obtain ⟨a,rfl,ht,hk⟩:=hrow i y e
     obtain ⟨ts,rt,⟨o,ho,hc,n,hd⟩,_⟩:=I.tuple ht
     refine ⟨a,o,ts,n,?_,kp _ _ ho,hc,hd,rt,hk⟩
     have:its.getD i Value.none=.ref a:=ry
     rw [List.getD_eq_getElem?_getD,List.getElem?_eq_getElem hi] at this
     rw [List.getElem?_eq_getElem hi]
     exact congrArg some this
    obtain ⟨k,ks',rfl⟩:∃ k ks',ks=k::ks':=by
     cases ks with
     | nil=>exact absurd rfl hne
     | cons k ks'=>exact ⟨k,ks',rfl⟩
    have hk0:k≠0:=fun e=>h0 (by rw [e]; exact List.mem_cons_self ..)
    refine ⟨tuples' true,fun A C hC=>?_,fun A i j C hi hj hC=>?_⟩
    ·have kt:∀ (l:List Value) (d:Nat),its.drop d=l→∃ fs,KatTups h' l fs∧fs.length=l.length∧∀ v∈fs,Looks (model X.prog X.w) h' (typeOf v) (tyK k):=by
      intro l
      induction l with
      | nil=>intro d _; exact ⟨[],.nil,rfl,fun v hv=>by cases hv⟩
      | cons v l ih =>
       intro d hd
       have hdl:d<its.length:=by
        have:=congrArg List.length hd
        rw [List.length_drop,List.length_cons] at this
        lia
       obtain ⟨a,o,ts,n,e,ho,hc,hdd,rt,hk⟩:=tup d hdl
       have e2:its.drop d=its[d]::its.drop (d+1):=List.drop_eq_getElem_cons hdl
       rw [hd] at e2
       injection e2 with e3 e4
       obtain ⟨fs,k1,k2,k3⟩:=ih (d+1) e4.symm
       rw [List.getElem?_eq_getElem hdl] at e
       injection e with e
       rw [e3,e]
       cases hr:rows d with
       | nil=>rw [hr] at hk; simp at hk
       | cons x xr =>
        rw [hr] at rt hk
        cases rt with
        | @cons _ f _ tr rf rr =>
         rw [List.map_cons] at hk
         injection hk with hk1 hk2
         refine ⟨f::fs,.cons ho hc hdd (by simp) k1,by simp [k2],fun v hv=>?_⟩
         rcases List.mem_cons.mp hv with rfl | hv
         ·exact zgK_ rf hk1 hk0
         ·exact k3 v hv
     obtain ⟨fs,k1,k2,k3⟩:=kt its 0 rfl
     have:=kat_kind (M:=model X.prog X.w) (A:=A) (E:=fun _ _=>False) (s:={ s with heap:=h' }) (Q:=C) k1 (by lia) k3 (zjY_ k) (by rw [zjh_]; exact hC)
     exact this
    ·obtain ⟨a,o,ts,n,e,ho,hc,hd,rt,hk⟩:=tup i hi
     obtain ⟨a2,o2,ts2,n2,e2,ho2,hc2,hd2,rt2,hk2⟩:=tup j hj
     unfold kas_ask
     rw [List.getD_eq_getElem?_getD,List.getD_eq_getElem?_getD,e,e2]
     have hl:ts.length=ts2.length:=by
      have a1:=Vals.length rt
      have a2:=Vals.length rt2
      have:=congrArg List.length (hk.trans hk2.symm)
      rw [List.length_map,List.length_map] at this
      lia
     refine kat_lt (s:={ s with heap:=h' }) ho hd ho2 hd2 ?_
     rw [show decide (ts.toArray.size<ts2.toArray.size)=false from decide_eq_false (by simp [hl])]
     refine zgu_ 0 rt rt2 (hk.trans hk2.symm) (by rw [hk]; exact h0) ?_
     rw [← hlt i j (by lia) (by lia)]
     exact hC
  ·refine ⟨.ref (s.heap.objs.size+1),_,I.laid (o:=.lst (idx.map fun i=>ys.getD i .non)) (t':=s.toks) kp (Nat.le_succ _) ?_,rfl,q idx (by rwa [hlen]) _ (I.hok.fresh (Nat.le_succ _))⟩
   have hi1:∀ i∈idx,i<its.length:=fun i hi'=>List.mem_range.mp (hi.1.mem_iff.mp hi')
   refine ⟨?_,_,c,zfo_ r' idx hi1,ho⟩
   rw [List.length_map,hi.1.length_eq,List.length_range,sizeLine_eq]
   lia
 ·exact h.elim
end
end L2
namespace L2
open PySem PySem.Spec PyProof.Rows PySem.W
section
variable {α β:Type}
structure LOr (lt:α→α→Bool):Prop where
 asym:∀ {a b},lt a b=true→lt b a=false
 tr:∀ {a b c},lt b a=false→lt c b=false→lt c a=false
 anti:∀ {a b},lt a b=false→lt b a=false→a=b
noncomputable def srtL (lt:α→α→Bool) (xs:List α):List α:=xs.mergeSort (fun a b=>!lt b a)
theorem zdZ_ (lt:α→α→Bool) (xs:List α):(srtL lt xs).Perm xs:=List.mergeSort_perm _ _
theorem zgi_ {lt:α→α→Bool}(o:LOr lt) (xs:List α):(srtL lt xs).Pairwise fun a b=>lt b a=false:=by
 have:=List.pairwise_mergeSort (le:=fun a b=>!lt b a) (fun a b c h1 h2=>by simp only [Bool.not_eq_true'] at *; exact o.tr h1 h2) (fun a b=>by
  cases h:lt b a with
  | false=>simp
  | true=>simp [o.asym h]) xs
 exact this.imp (fun h=>by simpa using h)
theorem zhL_ {lt:α→α→Bool}(o:LOr lt):∀ {ws ys:List α},ws.Perm ys→ws.Pairwise (fun a b=>lt b a=false)→ys.Pairwise (fun a b=>lt b a=false)→ws=ys
 | [],ys,hp,_,_=>by rw [List.Perm.nil_eq hp]
 | w::ws,[],hp,_,_=>by have:=hp.length_eq; simp at this
 | w::ws,y::ys,hp,h1,h2=>by
  obtain ⟨a1,a2⟩:=List.pairwise_cons.mp h1
  obtain ⟨b1,b2⟩:=List.pairwise_cons.mp h2
  have e:w=y:=by
   have m1:w∈y::ys:=hp.mem_iff.mp (List.mem_cons_self ..)
   have m2:y∈w::ws:=hp.mem_iff.mpr (List.mem_cons_self ..)
   rcases List.mem_cons.mp m1 with e | m1
   ·exact e
   ·rcases List.mem_cons.mp m2 with e | m2
    ·exact e.symm
    ·exact o.anti (b1 w m1) (a1 y m2)
  subst e
  rw [zhL_ o (List.Perm.cons_inv hp) a2 b2]
theorem zhP_ {lt:α→α→Bool}(o:LOr lt) {ws xs:List α}(hp:ws.Perm xs) (hs:ws.Pairwise fun a b=>lt b a=false):ws=srtL lt xs :=
 zhL_ o (hp.trans (zdZ_ lt xs).symm) hs (zgi_ o xs)
noncomputable def ltI (a b:Int):Bool:=decide (a<b)
theorem zmp_:LOr ltI:=by
 unfold ltI
 refine ⟨fun h=>?_,fun h h'=>?_,fun h h'=>?_⟩<;>simp only [decide_eq_true_eq,decide_eq_false_iff_not] at*<;> lia
end
end L2
namespace L2
open PySem PySem.Spec PyProof.Rows PySem.W
section
variable {α β γ:Type}{K:Fgg}{E:XK}
noncomputable def FlT (T:Ty α) (k:Nat) (lt:α→α→Bool):Prop:=k≠0∧∀ a v F,T.R a v F→knd v=k∧∀ b u F',T.R b u F'→ltF v u=lt a b∧(eqF v u=true↔a=b)
theorem zma_:FlT tyInt 1 ltI:=by
 refine ⟨by decide,fun a v F h=>?_⟩
 subst h
 refine ⟨rfl,fun b u F' h'=>?_⟩
 subst h'
 exact ⟨rfl,by simp [eqF]⟩
theorem zhK_ {T:Ty α}{H:Hp}:∀ {xs:List α}{vs:List V},Prs T H xs vs→∀ (i:Nat) (v:V),vs[i]?=some v→∃ x,xs[i]?=some x∧T.R x v H
 | _,_,.nil,i,v,e=>by simp at e
 | _,_,.cons a t,0,v,e=>by simp at e; subst e; exact ⟨_,rfl,a⟩
 | _,_,.cons a t,i+1,v,e=>zhK_ t i v (by simpa using e)
theorem ziB_ {T:Ty α}{H:Hp}{xs:List α}{vs:List V}(r:Prs T H xs vs) (d:α):∀ (idx:List Nat),(∀ i∈idx,i<vs.length)→Prs T H (idx.map fun i=>xs.getD i d) (idx.map fun i=>vs.getD i .non)
 | [],_=>.nil
 | i::idx,h=>by
  have hi:=h i (List.mem_cons_self ..)
  obtain ⟨x,e,rx⟩:=zhK_ r i vs[i] (List.getElem?_eq_getElem hi)
  refine .cons ?_ (ziB_ r d idx fun j hj=>h j (List.mem_cons_of_mem _ hj))
  show T.R (xs.getD i d) (vs.getD i .non) H
  rw [List.getD_eq_getElem?_getD,List.getD_eq_getElem?_getD,e,List.getElem?_eq_getElem hi]
  exact rx
theorem zhg_ {lt:α→α→Bool}(o:LOr lt) {xs:List α}{d:α}{idx:List Nat}(h:Srtd (fun i j=>lt (xs.getD i d) (xs.getD j d)) xs.length idx):(idx.map fun i=>xs.getD i d)=srtL lt xs:=by
 refine zhP_ o ?_ ?_
 ·have e:(List.range xs.length).map (fun i=>xs.getD i d)=xs:=by
   apply List.ext_getElem?
   intro i
   by_cases hi:i<xs.length
   ·simp [hi]
   ·simp [List.getElem?_eq_none,hi,Nat.le_of_not_lt hi]
  have:=h.1.map (fun i=>xs.getD i d)
  rwa [e] at this
 ·exact List.pairwise_map.mpr (h.2.imp fun q=>q)
theorem zmq_ {lt:α→α→Bool}(o:LOr lt) (f:Nat→α):WOr fun i j=>lt (f i) (f j):=⟨fun h=>o.asym h,fun h h'=>o.tr h h'⟩
end
end L2
universe u
namespace L2
open PySem PySem.Spec PyProof.Rows
section
variable {α γ:Type}{K:Fgg}{E:XK}{L:List Sl}{T:Ty α}{e:TE}
noncomputable abbrev tyH {γ:Type}(C:Cs γ):Ty γ:=⟨fun c v H=>∃ p us,v=.ref p∧H p=some (.lst us)∧C.R c us H,fun g ⟨p,us,e,h,q⟩=>⟨p,us,e,g _ _ h,C.mono g q⟩⟩
theorem ev_hl {ta:TA}{C:Cs γ}{r:Mo γ}{n:Nat}(hl:CsN C n) (h:EvA K ta E L r C) (hn:n≤100:=by decide):EvF K (tLst ta) E L r (tyH C):=by
 intro σ F H Q hL hs q
 refine h σ F H _ hL hs (q.more.imp fun c F1 H1 x1 k1 vs hvs=>⟨zbH_ (by rw [hl hvs]; lia),fun p hp=>?_⟩)
 have x:=Ext.new (o:=.lst vs) x1.2.1 hp
 exact k1 _ _ x _ ⟨p,vs,rfl,zau_,C.mono x.1 hvs⟩
theorem zkE_ {C:Cs γ}{i:Nat}{pr:γ→α}{r:Mo γ}(ha:CsAt C i T pr) (h:EvF K e E L r (tyH C)):EvF K (tOp (mIx K) e (tC (.int i))) E L (r.bind fun c=>.ok (pr c)) T:=by
 intro σ F H Q hL hs q
 refine h σ F H _ hL hs (q.bind.imp fun c F1 H1 x1 k1 v1 ⟨p,us,ev,hp,hc⟩=>?_)
 subst ev
 obtain ⟨w,e2,rw'⟩:=ha hc
 refine ⟨us,.inl (.of (x1.2.1 _ _ hp)),?_⟩
 have e3:atI us (i:Int)=some w:=by
  unfold atI
  rw [zkO_ (by lia) (by have:=(List.getElem?_eq_some_iff.mp e2).1; lia)]
  simpa using e2
 rw [e3]
 exact k1.ok x1.2.1 w rw'
theorem eqt_h {C:Cs γ}{n m:Nat}{q:γ→γ→Bool}(h:EqC K C n m q):EqT K (tyH C) (n+1) q:=⟨by
 rintro a b x y H ⟨p,us,rfl,hp,hc⟩ ⟨p2,ws,rfl,hp2,hc2⟩
 obtain ⟨l1,l2,e,he,ea⟩:=h.eq hc hc2
 have:=EqD.lst e (.of hp) (.of hp2) (l1.trans l2.symm) he (K:=K)
 rw [l1,ea] at this
 exact this⟩
theorem op_eqH {C:Cs γ}{n:Nat}{q:γ→γ→Bool}(h:EqT K (tyH C) n q) (hn:n≤50:=by decide):Op2 K (mEqK K) E (tyH C) (tyH C) (fun a b=>.ok (q a b)) tyBl:=zkH_ h hn fun ⟨p,_,e,_⟩=>⟨p,e⟩
theorem zl9_ {C:Cs γ}{n:Nat}{q:γ→γ→Bool}(h:EqT K (tyH C) n q) (hn:n≤50:=by decide):Op2 K (mNeK K) E (tyH C) (tyH C) (fun a b=>.ok (!(q a b))) tyBl:=zkc_ h hn fun ⟨p,_,e,_⟩=>⟨p,e⟩
end
section
variable {α:Type}{K:Fgg}{E:XK}{L:List Sl}{T:Ty α}{F h H F0 H0:Hp}{ρ B S:Type}{LS:S→List Sl}{LB:B→List Sl}{O:Own ρ}
theorem zfI_ {α:Type u}{l:List α}{i:Nat}{o:α}(h:l[i]?=some o):l.set i o=l:=by
 apply List.ext_getElem?
 intro j
 rw [List.getElem?_set]
 have hlt:=(List.getElem?_eq_some_iff.mp h).1
 by_cases e:i=j
 ·subst e; rw [if_pos rfl,if_pos hlt,h]
 ·rw [if_neg e]
end
end L2
namespace L2
open PySem PySem.Spec PyProof.Rows PySem.W
section
variable {prog:Program}{w:World}{A:Around}{E:Value→Shared→Prop}{s:Shared}{T:String}{rr dd:Addr}{n:Nat}{PP:Nat→Value→Prop}{OK:Heap→Prop}
theorem zjX_ {R:List Value→Shared→Prop}(Kd:KdlSrc prog w T rr dd n PP OK) (hh:A.handled=none) (hok:OK s.heap) (hn:n≤sizeLine)
  (hR:∀ (h':Heap) (tk:Nat) (acc:Array Value),s.heap.objs.size<h'.objs.size→(∀ b o,s.heap.get? b=some o→h'.get? b=some o)→ItemsOf PP acc n→R acc.toList { s with heap:=h',toks:=tk }) :
  wpAny (model prog w) A (collect (.ref rr)) R E s:=by
 obtain ⟨lr,ld⟩:=Kd.there _ hok
 unfold collect; refine wpAny_bind (wpAny_runValue (codeAny_builtin entry_proto_collect' ?_)); rw [Around.under_plainId PySem.F.plain_proto_collect _]
 show wpAny _ A.in1 (newList []>>=fun l=>again (.builtin "list.__iadd__" ⟨[l,.ref rr],[]⟩)) _ _ s; refine wpAny_bind (wpAny_newObj_type ?_)
 refine wpAny_pure ⟨plainId_quiet PySem.F.plain_list_iadd _,codeAny_builtin entry_list_iadd' ?_⟩; rw [Around.under_plainId PySem.F.plain_list_iadd _]
 have h0:(s.heap.push { cls:=.type "list",data:=.seq ([]:List Value).toArray }).get? s.heap.objs.size=some { cls:=.type "list",data:=.seq #[] }:=Heap.get?_push_size _ rfl
 show wpAny _ A.in1 (Builtin.List.listExtendWith (.ref s.heap.objs.size) (.ref rr) (.ref s.heap.objs.size)) _ _ _
 have key:=kdl_extend (A:=A) (s:={ s with heap:=s.heap.push { cls:=.type "list",data:=.seq ([]:List Value).toArray } })
  (R:=fun (q:Result) (s':Shared)=>∃ (h':Heap) (tk:Nat) (acc:Array Value) (c:Nat),q=.ok (.ret (.ref s.heap.objs.size))∧s'={ s with heap:=h',toks:=tk }∧(∀ b o,s.heap.get? b=some o→h'.get? b=some o)∧h'.get? s.heap.objs.size=some { cls:=.type "list",dict:=none,data:=.seq acc c,slots:=#[] }∧ItemsOf PP acc n)
  Kd hh (Kd.keep _ _ hok fun b _ o e=>Heap.get?_push_of_some _ e) s.heap.objs.size (Nat.ne_of_gt lr) (Nat.ne_of_gt ld) (.ref s.heap.objs.size) 0 h0
  (fun h' tk acc c hk hS hacc=>⟨h',tk,acc,c,rfl,rfl,fun b o e=>hk b o (Nat.ne_of_lt (Heap.lt_size e)) (Heap.get?_push_of_some _ e),hS,hacc⟩) hn
 refine wpAny_mono key (fun fin s' x=>?_) fun e s' x=>?_
 ·cases fin with
  | done f =>
   obtain ⟨h',tk,acc,c,e,rfl,hk,hS,hacc⟩:=x
   cases e; show wpAny _ A (load s.heap.objs.size>>=_) _ _ _
   exact wpAny_bind (wpAny_load hS (wpAny_pure (hR h' tk acc (Heap.lt_size hS) hk hacc)))
  | again c1 =>
   refine ⟨x.1,codeAny_mono x.2 fun q s2 y=>?_⟩; obtain ⟨h',tk,acc,c,rfl,rfl,hk,hS,hacc⟩:=y
   show wpAny _ A (load s.heap.objs.size>>=_) _ _ _; exact wpAny_bind (wpAny_load hS (wpAny_pure (hR h' tk acc (Heap.lt_size hS) hk hacc)))
 ·obtain ⟨_,_,_,_,e',_⟩:=x; cases e'
end
section
variable {prog:Program}{w:World}{A:Around}{E:Value→Shared→Prop}{s:Shared}{lt:Nat→Nat→Bool}
theorem zih_ {v:Value}{n:Nat}{PV:List Value→Prop}{Q:Value→Shared→Prop}(h64:n<64) (wo:WOr lt) (hlen:∀ vs,PV vs→vs.length=n)
  (col:∀ R:List Value→Shared→Prop,(∀ (vs:List Value) (h':Heap) (tk:Nat),PV vs→s.heap.objs.size≤h'.objs.size→(∀ b o,s.heap.get? b=some o→h'.get? b=some o)→R vs { s with heap:=h',toks:=tk })→wpAny (model prog w) A.in1 (collect v) R E s)
  (kk:∀ (vs:List Value),PV vs→2≤vs.length→∀ (h':Heap) (tk:Nat),(∀ b o,s.heap.get? b=some o→h'.get? b=some o)→CmpAt prog w vs lt { s with heap:=h',toks:=tk })
  (q:∀ (vs:List Value) (l:Addr) (h':Heap) (tk:Nat) c (p:List Nat),PV vs→s.heap.objs.size≤l→(∀ b o,s.heap.get? b=some o→h'.get? b=some o)→Srtd lt vs.length p→h'.get? l=some (seqObj "list" (p.map fun i=>vs.getD i Value.none).toArray c)→Q (.ref l) { s with heap:=h',toks:=tk }) :
  wpAny (model prog w) A (call (.builtin "sorted") [v]) Q E s:=by
 refine Calls.call_function_entry kind_sorted plain_sorted entry_sorted (args_sorted1 _) ?_
 unfold Builtin.«sorted»
 refine wpAny_bind (m:=checkCount "sorted" 1 1 _) (wpAny_pure ?_)
 refine wpAny_bind (col _ fun vs h1 tk pv hle k1=>?_)
 have hn:=hlen vs pv
 refine wpAny_bind (wpAny_newList ?_ (by rw [sizeLine_eq]; lia))
 have hoL:(h1.push (seqObj "list" vs.toArray 0)).get? h1.objs.size=some (seqObj "list" vs.toArray 0):=Heap.get?_push_size _ rfl
 have keep:∀ b o,s.heap.get? b=some o→(h1.push (seqObj "list" vs.toArray 0)).get? b=some o:=fun b o e=>Heap.get?_push_of_some _ (k1 b o e)
 show wpAny _ _ _ _ _ { s with heap:=h1.push (seqObj "list" vs.toArray 0),toks:=tk }
 have keep2:∀ (h':Heap),(∀ b o,b≠h1.objs.size→(h1.push (seqObj "list" vs.toArray 0)).get? b=some o→h'.get? b=some o)→∀ b o,s.heap.get? b=some o→h'.get? b=some o:=fun h' hk b o e =>
  hk b o (Nat.ne_of_lt (Heap.lt_size (k1 b o e))) (keep b o e)
 refine wpAny_bind (wpAny_holding (wpAny_call_entry slot_list_sort ⟨_,hoL,rfl⟩ entry_list_sort ?body (args_list_sort _)))
 case body =>
  refine zgG_ (s:={ s with heap:=h1.push (seqObj "list" vs.toArray 0),toks:=tk }) hoL (by lia) wo (fun h2 h' hk=>kk vs pv h2 h' tk (keep2 h' hk)) fun h' c p hk hp ho'=>?_
  exact ⟨_,rfl,wpAny_pure ⟨_,rfl,q vs _ h' tk c p pv hle (keep2 h' hk) hp ho'⟩⟩
end
section
variable {X:Cx}
theorem zjD_ {ys:List V}{its:List Value}{lt:Nat→Nat→Bool}{k:Nat}{s:Shared}(r':Vals ys its) (hk:k≠0) (hall:∀ y∈ys,knd y=k) (hlt:∀ i j x y,ys[i]?=some x→ys[j]?=some y→lt i j=ltF x y) (h2:2≤its.length) :
  CmpAt X.prog X.w its lt s:=by
 refine ⟨oneType',fun A C hC=>?_,fun A i j C hi hj hC=>?_⟩
 ·refine kas_kind h2 (T:=tyK k) (fun v hv=>?_) (zjh_ k) (zjY_ k) hC
  obtain ⟨i,hi⟩:=List.mem_iff_getElem?.mp hv
  obtain ⟨hi',_⟩:=List.getElem?_eq_some_iff.mp hi
  obtain ⟨y,_,ry,hy⟩:=zbd_ r' hi'
  rw [List.getD_eq_getElem?_getD,hi] at ry
  exact zgK_ ry (hall y hy) hk
 ·obtain ⟨x,ex,rx,hx⟩:=zbd_ r' hi
  obtain ⟨y,ey,ry,hy⟩:=zbd_ r' hj
  rw [hlt i j x y ex ey] at hC
  unfold kas_ask
  rw [keyLt'_oneType]
  exact zgQ_ rx ry (by rw [hall x hx,hall y hy]) (by rw [hall x hx]; exact hk) hC
noncomputable def mSortD (K:Fgg):List V→Hp→VK→Prop:=fun xs H Q=>mSorted K xs H Q∨match xs with
 | [.ref p]=>∃ (kvs:List (Key×V)) (k:Nat) (lt:Nat→Nat→Bool),H p=some (.dK kvs)∧kvs.length<64∧WOr lt∧k≠0∧(∀ q∈kvs,knd (kV q.1)=k)∧(∀ i j x y,(kvs.map fun q:Key×V=>kV q.1)[i]?=some x→(kvs.map fun q=>kV q.1)[j]?=some y→lt i j=ltF x y) ∧
   ∀ idx,Srtd lt kvs.length idx→∀ l,H l=none→Q (.ref l) (upd H l (.lst (idx.map fun i=>(kvs.map fun q=>kV q.1).getD i .non)))
 | _=>False
theorem is_kV {P:Program}{w:World}{k:Key}{u:Value}(h:(mixKind P w).is k u=true):RelV (kV k) u:=by
 rw [zgv_] at h
 rcases zaf_ h with ⟨i,t,rfl,rfl⟩ | ⟨x,t,rfl,rfl⟩<;>exact ⟨_,rfl⟩
theorem zfb_ (hc:X.calm=true):CallR X (.builtin "sorted") (mSortD X.K):=by
 intro pins s σ H xs us Q I r h
 unfold mSortD at h
 rcases h with h | h
 ·exact zfa_ pins s σ H xs us Q I r h
 ·split at h
  ·rename_i p
   obtain ⟨kvs,k,lt,hp,h64,wo,hk,hall,hlt,q⟩:=h
   obtain ⟨u,rfl,rx⟩:=vals1 r
   cases rx
   obtain ⟨z,hd,vs,rel,dd⟩:=zhR_ I.hok (.inl hp)
   obtain ⟨ep,hat⟩:=dd.dictAt
   have hln:kvs.length=vs.length:=rel.length
   have hpv:∀ us:List Value,Vals (kvs.map fun q=>kV q.1) us→us.length=kvs.length:=fun us hv=>by rw [← Vals.length hv,List.length_map]
   refine zih_ (n:=kvs.length) (PV:=fun us=>Vals (kvs.map fun q=>kV q.1) us) h64 wo hpv (fun R hR=>?_) (fun us hv h2 h' tk _=>?_) fun us l h' tk c idx hv hl kp hi ho=>?_
   ·refine zjX_ (kdl_dict (knd:=mixKind X.prog X.w) (kvs:=vs) (ep:=ep) hd) ?_ hat (by rw [← hln,sizeLine_eq]; lia) fun h' tk acc hsz hkp hacc=>hR _ h' tk ?_ (Nat.le_of_lt hsz) hkp
    ·exact I.ok.hd hc
    ·have hl:acc.toList.length=kvs.length:=by rw [Array.length_toList,hln]; exact hacc.1
     have e:∀ (ks:List (Key×V)) (us:List Value),ks.length=us.length→(∀ (i:Nat) (q:Key×V) (u:Value),ks[i]?=some q→us[i]?=some u→RelV (kV q.1) u)→Vals (ks.map fun q=>kV q.1) us:=by
      intro ks
      induction ks with
      | nil=>intro us hl _; cases us with | nil=>exact .nil | cons _ _=>simp at hl
      | cons q ks ih =>
       intro us hl hh
       cases us with
       | nil=>simp at hl
       | cons u us=>exact .cons (hh 0 q u rfl rfl) (ih us (by simpa using hl) fun i q' u' e1 e2=>hh (i+1) q' u' (by simpa using e1) (by simpa using e2))
     refine e kvs acc.toList hl.symm fun i q u e1 e2=>?_
     obtain ⟨k',x,ek,hk'⟩:=hacc.2 i u (by rw [← Array.getElem?_toList]; exact e2)
     have:∀ (a:List (Key×V)) (b:List (Key×Value)) (i:Nat) q k' x,KV a b→a[i]?=some q→b[i]?=some (k',x)→q.1=k':=by
      intro a b i q k' x hab
      unfold KV at hab
      induction hab generalizing i with
      | nil=>intro e; simp at e
      | cons r t ih =>
       intro e1 e2
       cases i with
       | zero=>simp at e1 e2; subst e1; have:=r.1; rw [e2] at this; exact this
       | succ i=>exact ih i (by simpa using e1) (by simpa using e2)
     rw [this kvs vs i q k' x rel e1 ek]
     exact is_kV hk'
   ·refine zjD_ hv hk (fun y hy=>?_) hlt h2
    obtain ⟨q,hq,rfl⟩:=List.mem_map.mp hy
    exact hall q hq
   ·have hlu:=hpv us hv
    refine ⟨.ref l,_,I.laid (o:=.lst (idx.map fun i=>(kvs.map fun q=>kV q.1).getD i .non)) (t':=tk) kp hl ?_,rfl,q idx (by rwa [← hlu]) _ (I.hok.fresh hl)⟩
    have hi1:∀ i∈idx,i<us.length:=fun i hi'=>List.mem_range.mp (hi.1.mem_iff.mp hi')
    refine ⟨?_,_,c,zfo_ hv idx hi1,ho⟩
    rw [List.length_map,hi.1.length_eq,List.length_range,sizeLine_eq]
    lia
  ·exact h.elim
end
section
variable {α β γ κ:Type}{K:Fgg}{E:XK}
theorem zhI_ [DecidableEq κ] {KY:KyT κ}{T:Ty α}{k:Nat}{lt:κ→κ→Bool}(f:FlT KY.T k lt) (o:LOr lt) (hk:∀ x F,KY.T.R x (kV (KY.key x)) F) :
  BlO K (mSortD K) E (csLast (tyD KY T)) (fun m=>.grd (m.length<64) (.ok (srtL lt (m.map (·.1))))) (owL KY.T):=by
 rintro m vs F H Q hs ⟨v,rfl,p,kvs,rfl,h,r⟩ q
 have hl:m.length=kvs.length:=Paired.length r
 have pr:Prs KY.T F (m.map (·.1)) (kvs.map fun q=>kV q.1):=by
  clear h hl q
  induction r with
  | nil=>exact .nil
  | cons a t ih=>rename_i q w m kvs; rw [List.map_cons,List.map_cons,a.1]; exact .cons (hk _ _) ih
 obtain ⟨h64,q⟩:=q.grd
 have all:∀ q∈kvs,knd (kV q.1)=k:=fun q hq=>by
  obtain ⟨i,e⟩:=List.mem_iff_getElem?.mp (List.mem_map_of_mem (f:=fun q:Key×V=>kV q.1) hq)
  obtain ⟨x,_,rx⟩:=zhK_ pr i _ e
  exact (f.2 x _ F rx).1
 cases m with
 | nil =>
  cases r
  refine .inr ⟨[],1,fun _ _=>false,hs _ _ h,by decide,⟨(fun h=>by cases h),(fun _ _=>rfl)⟩,by decide,(fun y hy=>by cases hy),(fun i j x y e=>by simp at e),fun idx hi l hl=>?_⟩
  have:idx=[]:=by have:=hi.1.length_eq; simpa using this
  subst this
  rw [show srtL lt (([]:List (κ×α)).map (·.1))=[] by simp [srtL]] at q
  exact zcG_ hs hl (xs:=[]) .nil q
 | cons x xs =>
  refine .inr ⟨kvs,k,fun i j=>lt (((x::xs).map (·.1)).getD i x.1) (((x::xs).map (·.1)).getD j x.1),hs _ _ h,by lia,zmq_ o _,f.1,all,fun i j a b ea eb=>?_,fun idx hi l hl2=>?_⟩
  ·obtain ⟨a',ea',ra⟩:=zhK_ pr i a ea
   obtain ⟨b',eb',rb⟩:=zhK_ pr j b eb
   show lt (((x::xs).map (·.1)).getD i x.1) (((x::xs).map (·.1)).getD j x.1)=_
   rw [List.getD_eq_getElem?_getD,List.getD_eq_getElem?_getD,ea',eb']
   exact ((f.2 a' a F ra).2 b' b F rb).1.symm
  ·rw [← hl,← List.length_map (f:=(·.1))] at hi
   have e:=zhg_ o hi
   rw [← e] at q
   refine zcG_ hs hl2 (ziB_ pr x.1 idx fun i hi'=>?_) q
   have:=List.mem_range.mp (hi.1.mem_iff.mp hi')
   rw [List.length_map] at this ⊢
   lia
theorem zlU_ (x:Int) (F:Hp):(kInt).T.R x (kV (kInt.key x)) F:=rfl
end
end L2
namespace L2
open PySem PySem.Spec PyProof.Rows PySem.W
section
variable {prog:Program}{w:World}{A:Around}{E:Value→Shared→Prop}{s:Shared}{z ti to i j:Addr}{f g:List Addr}{n1 n2 k:Nat}{P1 P2:Nat→Value→Prop}{S1 S2:Nat→Heap→Prop}{a b:Value}
end
end L2
namespace L2
open PySem PySem.Spec PyProof.Rows PySem.W
section
variable {prog:Program}{w:World}{A:Around}{E:Value→Shared→Prop}{s:Shared}
end
section
variable {X:Cx}{elts:List Expr}{kk:Nat}{tpos:Pos}
end
section
variable {K:Fgg}{E:XK}{α β:Type}{L:List Sl}{T:Ty α}
end
end L2
namespace L2
open PySem PySem.Spec PyProof.Rows
section
variable {K:Fgg}{E:XK}{α β γ ρ S B:Type}{F0 H0 F h H:Hp}{L:List Sl}{e:TE}{T:Ty α}{r:Mo α}{O:Own ρ}{u:TS}{LS:S→List Sl}{LB:B→List Sl}
end
section
variable {K:Fgg}{E:XK}{α β γ ρ S B:Type}{F0 H0 F h H:Hp}{L:List Sl}{e:TE}{T:Ty α}{r:Mo α}{O:Own ρ}{u:TS}{LS:S→List Sl}{LB:B→List Sl}{p:Addr}{vs:List V}
end
end L2
namespace L2
open PySem PySem.Spec PyProof.Rows
section
variable {α β γ:Type}
variable {O:Own α}
end
section
variable {K:Fgg}{E:XK}{α β γ ρ S B:Type}{F0 H0 F h H:Hp}{L:List Sl}{e te ei:TE}{T:Ty α}{r:Mo α}{Or:Own ρ}{u:TS}{LS:S→List Sl}{LB:B→List Sl}{σ:St}
end
end L2
namespace L2
open PySem PySem.Spec PyProof.Rows
section
variable {X:Cx}{e value o:Expr}{es:List Expr}{f m x:Str}{p pos pos' apos:Pos}{ta tv:TE}{t:TA}{C:Addr}{k:Nat}{ps:List Str}{sp:Sp}
end
section
variable {α β γ:Type}
end
section
variable {K:Fgg}{E:XK}{α β γ δ ρ S B:Type}{F0 H0 F h H:Hp}{L:List Sl}{e te ei:TE}{T:Ty α}{r:Mo α}{Or:Own ρ}{u:TS}{LS:S→List Sl}{LB:B→List Sl}{σ:St}{C:Addr}{ns:List Str}{f:Str}{i n:Nat}
end
end L2
namespace L2
open PySem PySem.Spec PyProof.Rows
section
variable {K:Fgg}{E:XK}{α β γ δ ρ ρ' S B:Type}{F0 H0 F h H:Hp}{L:List Sl}{e te ei:TE}{T:Ty α}{r:Mo α}{Or:Own ρ}{t u:TS}{LS:S→List Sl}{LB:B→List Sl}{σ:St}{C:Addr}{ns:List Str}{f m:Str}{i n:Nat}
end
end L2
namespace L2
open PySem PySem.Spec PyProof.Rows
section
variable {K:Fgg}{E:XK}{α β γ δ ρ ρ' S B:Type}{F0 H0 F h H:Hp}{L:List Sl}{e te ei:TE}{T:Ty α}{r:Mo α}{Or:Own ρ}{t u:TS}{LS:S→List Sl}{LB:B→List Sl}{σ:St}{C:Addr}{ns:List Str}{f m:Str}{i n:Nat}
end
end L2
namespace L2
open PySem PySem.Spec PyProof.Rows
section
variable {K:Fgg}{E:XK}{γ:Type}{L:List Sl}{C:Addr}{ns:List Str}
end
end L2
namespace L2
open PySem PySem.Spec PyProof.Rows
end L2
namespace L2
open PySem PySem.Spec PyProof.Rows
section
variable {X:Cx}
end
section
variable {K:Fgg}{E:XK}{α β:Type}{L:List Sl}{e:TE}{T:Ty α}
theorem zbC_ {r:Mo (Option α)}(h:EvF K e E L r (tyOpt T)):EvF K e E L (r.bind fun o=>Mo.opt o) T:=by
 intro σ F H Q hL hs q
 refine h σ F H _ hL hs (q.bind.imp fun o F1 H1 x k v hv=>?_)
 cases o with
 | none=>exact k.elim
 | some a=>exact k.ok x.2.1 v hv.1
end
end L2
namespace L2
open PySem PySem.Spec PyProof.Rows
end L2
namespace L2
open PySem PySem.Spec PyProof.Rows
section
variable {prog:Program}{w:World}{A:Around}{E:Value→Shared→Prop}{s:Shared}
end
section
variable {X:Cx}
end
section
variable {K:Fgg}{E:XK}{α β γ ρ S B:Type}{F H:Hp}{L:List Sl}{e:TE}{T:Ty α}
end
end L2
namespace L2
open PySem PySem.Spec PyProof.Rows
section
variable {α β γ:Type}
end
section
variable {K:Fgg}{E:XK}{α β γ δ ρ ρ' S B:Type}{F0 H0 F h H:Hp}{L:List Sl}{e te ei:TE}{T:Ty α}{r:Mo α}{Or:Own ρ}{t u:TS}{LS:S→List Sl}{LB:B→List Sl}{σ:St}{C:Addr}{ns:List Str}{f m:Str}{i n w:Nat}
end
end L2
namespace L2
open PySem PySem.Spec PyProof.Rows
section
variable {K:Fgg}{E:XK}{α β γ δ ρ ρ' S B:Type}{F0 H0 F h H:Hp}{L:List Sl}{e te ei tc:TE}{T:Ty α}{r:Mo α}{Or:Own ρ}{Or':Own ρ'}{t u:TS}{LS:S→List Sl}{LB:B→List Sl}{σ:St}{C:Addr}{ns:List Str}{f m:Str}{i n w j:Nat}
end
end L2
namespace L2
open PySem PySem.Spec PyProof.Rows
section
variable {K:Fgg}{E:XK}{α β γ δ ρ ρ' S B:Type}{F0 H0 F h H:Hp}{L:List Sl}{e te ei tc:TE}{T:Ty α}{r:Mo α}{Or:Own ρ}{Or':Own ρ'}{t u:TS}{LS:S→List Sl}{LB:B→List Sl}{σ:St}{C:Addr}{ns:List Str}{f m:Str}{i n w j:Nat}
end
end L2
namespace L2
open PySem PySem.Spec PyProof.Rows
section
variable {K:Fgg}{E:XK}{L:List Sl}
end
section
variable {K:Fgg}{E:XK}{α β ρ B:Type}{F0 H0 F h H:Hp}{L:List Sl}{te:TE}{Or:Own ρ}{tb:TS}{LB:B→List Sl}{i w:Nat}
end
end L2
namespace L2
open PySem PySem.Spec PyProof.Rows
section
variable {K:Fgg}{E:XK}{α β γ δ ρ ρ' S B:Type}{F0 H0 F h H:Hp}{L:List Sl}{e te ei tc:TE}{ta:TA}{T:Ty α}{r:Mo α}{Or:Own ρ}{Or':Own ρ'}{t u:TS}{LS:S→List Sl}{LB:B→List Sl}{σ:St}{C:Addr}{ns:List Str}{f m:Str}{i n w j:Nat}
end
end L2
namespace L2
open PySem PySem.Spec PyProof.Rows
section
variable {K:Fgg}{E:XK}{α κ:Type} [DecidableEq κ] {KY:KyT κ}{L:List Sl}{e1 e2 e3:TE}{T:Ty α}
theorem zjx_ {r1:Mo (List (κ×α))}{r2:Mo κ}{r3:Mo α}(h1:EvF K e1 E L r1 (tyD KY T)) (h2:EvF K e2 E L r2 KY.T) (h3:EvF K e3 E L r3 T):EvF K (mDGet2 e1 e2 e3) E L (r1.bind fun m=>r2.bind fun k=>r3.bind fun d=>.ok ((getA m k).getD d)) T:=by
 intro σ F H Q hL hs q
 refine h1 σ F H _ hL hs (q.bind.imp fun m F1 H1 x1 k1 v1 hv1=>?_)
 obtain ⟨p0,kvs0,rfl,hp0,hd0⟩:=id hv1
 refine ⟨⟨kvs0,x1.2.1 _ _ hp0⟩,?_⟩
 refine h2 σ F1 H1 _ (hL.mono x1.1) x1.2.1 (k1.bind.imp fun k F2 H2 x2 k2 v2 hv2=>?_)
 refine h3 σ F2 H2 _ ((hL.mono x1.1).mono x2.1) x2.2.1 (k2.bind.imp fun d F3 H3 x3 k3 v3 hv3=>?_)
 refine at_d ((tyD KY T).mono (x2.1.trans x3.1) hv1) (KY.T.mono x3.1 hv2) x3.2.1 fun p kvs hp hd=>?_
 rcases zc4_ hd k with ⟨z,z2⟩ | ⟨a',v,z1,z2,z3⟩
 ·rw [z] at k3; rw [z2]; exact k3.ok x3.2.1 _ hv3
 ·rw [z1] at k3; rw [z2]; exact k3.ok x3.2.1 _ z3
end
section
variable {K:Fgg}{E:XK}{α β ρ ρ' B:Type}{L:List Sl}{te:TE}{Or:Own ρ}{Or':Own ρ'}{LB:B→List Sl}{C:Addr}{ns:List Str}{m:Str}{i w:Nat}
end
end L2
namespace L2
open PySem PySem.Spec PyProof.Rows
section
variable {K:Fgg}{E:XK}{α β γ δ ρ ρ' S B:Type}{F0 H0 F h H:Hp}{L:List Sl}{e te te2 tc:TE}{ta:TA}{T:Ty α}{r:Mo α}{Or:Own ρ}{Or':Own ρ'}{t u:TS}{LS:S→List Sl}{LB:B→List Sl}{σ:St}{C:Addr}{ns:List Str}{f m:Str}{i n w j:Nat}
end
theorem atF {K:Fgg}{E:XK}{α:Type}{e:TE}{r:Mo α}{T:Ty α}(L:List Sl) (h:EvF K e E L r T):EvF K e E L r T:=h
end L2
namespace L2
open PySem PySem.Spec PyProof.Rows
noncomputable def Itv (K:Fgg) (a:Addr) (n:Nat):It :=
 ⟨fun i H=>∃ xs,SqL K H a xs∧xs.length=n∧i<n,fun i H x H'=>H'=H∧∀ xs,SqL K H a xs→xs[n-1-i]?=some x,fun i H=>n≤i⟩
theorem zj0_ {P:Program}{w:World}{K:Fgg}{tg:Expr}(a it:Addr) (n:Nat):Turn P w K tg (Itv K a n) [it] it (fun i h=>i≤n∧h.IsRevIter it a ((n:Int)-1-(i:Int))) where
 mem:=by simp
 obj:=fun i h st b hb=>by
  have e:b=it:=by simpa using hb
  subst e
  obtain ⟨_,o,e,c,d⟩:=st
  exact ⟨o,e,fun v z=>by rw [d] at z; cases z⟩
 keep:=fun i h h' st k=>⟨st.1,st.2.at fun o e=>k it (by simp) o e⟩
 item:=by
  intro X hP hw hK hc i pins s σ H E I hf st hg
  subst hP hw hK
  obtain ⟨xs,hq,hn,hi⟩:=hg
  obtain ⟨its,rv,p,hz⟩:=I.list hq
  obtain ⟨x,hx⟩:∃ x,xs[n-1-i]?=some x:=⟨_,List.getElem?_eq_getElem (by lia)⟩
  obtain ⟨u,hu,ru⟩:=rv.get hx
  obtain ⟨f0,f1,f2,f3,f4,f5⟩:=hf it (by simp)
  have e:(n:Int)-1-(i:Int)=((n-1-i:Nat):Int):=by lia
  have e2:((n-1-i:Nat):Int)-1=(n:Int)-1-((i+1:Nat):Int):=by lia
  have hit:=st.2
  rw [e] at hit
  refine wpAny_pyNext_rev_item hit p.isList (x:=u) (by simpa using hu) fun h' st' sb=>?_
  rw [e2] at st'
  have I1:Inv X pins σ H { s with heap:=h' }:=I.turned (t':=s.toks) (fun b o hb e=>(sb.2 b hb).trans e) f0 f1 f3 f4 f5
  obtain ⟨o,eo,c,d⟩:=id st'
  exact ⟨u,rfl,zlx_ (s:={ s with heap:=h' }) eo c d (by decide) ⟨x,H,I1,ru,⟨rfl,fun ys hy=>by rw [I.list_inj hy hq]; exact hx⟩,⟨hi,st'⟩,fun b hb=>(hf b hb).1⟩⟩
 done:=by
  intro X hP hw hK hc i pins s σ H E I hf st hg
  subst hP hw hK
  obtain ⟨f0,f1,f2,f3,f4,f5⟩:=hf it (by simp)
  have hi:n≤i:=hg
  have ei:i=n:=Nat.le_antisymm st.1 hi
  subst ei
  have e:(i:Int)-1-(i:Int) = -1:=by lia
  have hit:=st.2
  rw [e] at hit
  exact wpAny_pyNext_rev_end (I.ok.hd hc) hit fun h' eb=>⟨rfl,I.turned (t':=s.toks) (fun b o hb e=>eb b o hb e) f0 f1 f3 f4 f5⟩
 self:=fun _ _ _ _ _ st h=>wpAny_pyIter_revIter st.2 h
noncomputable def iRev (K:Fgg) (ta:TA):TI:=fun σ H R=>ta σ H fun vs H1=>match vs with
 | [.ref a]=>∃ xs,SqL K H1 a xs∧R (Itv K a xs.length) H1
 | _=>False
section
variable {X:Cx}{tg:Expr}
theorem zl8_ {a:Expr}{ta:TA}{p pos:Pos}(hm:Gb X.mg "reversed") (ha:PA X [a] ta) (hg:Gl X "reversed" := by rfl) (hs:starEach [a] X.env=[(false,eval a X.env)]:=by rfl) :
  PI X tg (.Call (.Name "reversed" p) [a] [] pos) (iRev X.K ta):=by
 intro pins s σ H R I h
 refine Call_ (zgV_ I hg hm (u:=.type "reversed") (by rfl) (PyProof.Rows.callWith_type1 (thn (ha pos pins s σ H _ I h) fun us s1 ⟨vs,H1,I1,r1,q1⟩=>?_) hs rfl))
 dsimp only at q1
 split at q1
 ·rename_i l
  obtain ⟨xs,hq,q⟩:=q1
  cases r1 with
  | cons r rr =>
   cases rr
   cases r
   obtain ⟨its,rv,p,hz⟩:=I1.list hq
   refine call_reversed_list p.isList ?_
   have hl:(its.toArray.size:Int)-1=(xs.length:Int)-1-((0:Nat):Int):=by
    have:=rv.length
    simp; lia
   have hit:Heap.IsRevIter (s1.heap.push (revObj l ((its.toArray.size:Int)-1))) s1.heap.objs.size l ((xs.length:Int)-1-((0:Nat):Int)):=⟨_,Heap.get?_push_size _ rfl,rfl,by rw [← hl]; rfl⟩
   refine wpAny_pyIter_revIter (s:={ s1 with heap:=s1.heap.push (revObj l ((its.toArray.size:Int)-1)) }) hit ?_
   refine ⟨s1.heap.objs.size,[s1.heap.objs.size],_,_,H1,rfl,I1.kept (t':=s1.toks) fun b o e=>Heap.get?_push_of_some _ e,zj0_ l _ xs.length,⟨Nat.zero_le _,hit⟩,fun b hb=>?_,q⟩
   have e:b=s1.heap.objs.size:=by simpa using hb
   subst e
   exact I1.fpOk (Nat.le_refl _) (I1.hok.fresh (Nat.le_refl _))
 ·exact q1.elim
end
section
variable {K:Fgg}{E:XK}{α β:Type}{L:List Sl}{T:Ty α}
theorem zlT_ {r:Mo (List α)}{ta:TA}(h:EvA K ta E L r (csLast (tyL T))):EvI K (iRev K ta) E L (r.bind fun l=>.ok l.reverse) T:=by
 intro σ F H R hL hs q
 refine h σ F H _ hL hs (q.bind.imp fun l F1 H1 x1 k1 vs hv=>?_)
 obtain ⟨v,rfl,p,us,rfl,hp,hr⟩:=hv
 have hlen:l.length=us.length:=hr.len
 refine ⟨us,.of (x1.2.1 _ _ hp),k1.ok x1.2.1 _ ⟨fun i H x hH hx=>?_,fun H hH=>?_⟩⟩
 ·obtain ⟨hi,_⟩:=List.getElem?_eq_some_iff.mp hx
  rw [List.length_reverse] at hi
  rw [List.getElem?_reverse hi] at hx
  rcases hr.get (l.length-1-i) with ⟨a,_⟩ | ⟨y,u,a,b,c⟩
  ·rw [a] at hx; cases hx
  ·rw [a] at hx; cases hx
   refine ⟨⟨us,.of (hH _ _ hp),rfl,by lia⟩,?_⟩
   rintro v H' ⟨rfl,z⟩ F hF hF'
   have e:=z us (.of (hH _ _ hp))
   rw [← hlen,b] at e; cases e
   exact ⟨F,.refl hF',T.mono hF c⟩
 ·show us.length≤_
  rw [List.length_reverse,hlen]; exact Nat.le_refl _
end
noncomputable def mSetD (td ty tz:TE):TE:=fun σ H Q=>td σ H fun x H1=>(match x with | .ref a=>∃ kvs,H1 a=some (.dK kvs) | _=>False)∧ty σ H1 fun y H2=>tz σ H2 fun z H3=>atD x y H3 fun a kvs k =>
 match valV kvs k with | some v=>Q v H3 | none=>kvs.length<sizeLine∧Q z (upd H3 a (.dK (putK kvs k z)))
section
variable {X:Cx}{o e f:Expr}{apos cpos:Pos}{td ty tz:TE}
theorem zhr_ (hu:X.A.units+60<cLine) (ho:PE X o td) (he:PE X e ty) (hf:PE X f tz) (m:M2 X o "setdefault" apos e f cpos:=by exact ⟨rfl,rfl,rfl,rfl⟩):PE X (.Call (.Attribute o "setdefault" apos) [e,f] [] cpos) (mSetD td ty tz):=by
 intro pins s σ H Q I h
 refine wpAny_Call_method m.base m.few m.line PySem.F.plainAttrs_dict PySem.F.slot_dict_setdefault PySem.F.type_dict_setdefault (thn (ho pins s σ H _ I h) fun u s1 ⟨x,H1,I1,rx,hx,q1⟩=>?_)
 cases x with
 | ref a =>
  obtain ⟨kvs0,hd0⟩:=hx
  obtain rfl:u=Value.ref a:=rx
  obtain ⟨t1,t2,_⟩:=zjZ_ I1 (.inl ⟨kvs0,.inl hd0⟩)
  refine ⟨t1,t2,?_⟩
  rw [m.trees]
  refine Calls.callWith_builtin rfl (Calls.evalArgs_plain (Calls.spliced_cons (thn (he pins s1 σ H1 _ I1 q1) fun iv s2 ⟨y,H2,I2,ry,q2⟩ =>
   Calls.spliced_cons (thn (hf pins s2 σ H2 _ I2 q2) fun fv s3 ⟨z,H3,I3,rz,q3⟩=>Calls.spliced_nil ?_))))
  obtain ⟨a',kvs,k,ea,rfl,hd,q⟩:=zfn_ q3
  cases ea
  obtain ⟨hz,hsys,vs,rel,dd⟩:=zj5_ I3.hok hd
  have hzv:vs.length≤sizeLine:=by rw [← rel.length]; exact hz
  have rk:=rel.val k
  refine call_meetsIn PySem.F.slot_dict_setdefault dd.typeIs PySem.F.entry_dict_setdefault (PySem.F.args_dict_setdefault_3 _ _ _) (kt_meets_setdefault (mixKind X.prog X.w) a (ziQ_ ry) hsys fv) ⟨vs,dd,hzv,fun v hv=>?_,fun hn h' dd' hs=>?_⟩
  ·rw [hv] at rk
   cases g:valV kvs k with
   | none=>rw [g] at rk; exact rk.elim
   | some v0=>rw [g] at rk q; exact ⟨v0,H3,I3.tok _,rk,q⟩
  ·rw [hn] at rk
   cases g:valV kvs k with
   | some v0=>rw [g] at rk; exact rk.elim
   | none =>
    rw [g] at q
    have hl:(putK kvs k z).length≤sizeLine:=by have:=zcz_ kvs k z; have:=q.1; lia
    have hq:∃ q,h'.get? a=some q:=let ⟨q,_,_,hq,_⟩:=dd'; ⟨q,hq⟩
    exact ⟨z,_,zgP_ I3 (by rw [hd]; exact True.intro) hs hq (zlg_ hl hsys (rel.put k rz) dd'),rz,q.2⟩
 | _=>exact hx.elim
end
section
variable {K:Fgg}{E:XK}{α β γ ρ κ S B:Type}{F0 H0 F h H:Hp}{L:List Sl}{T:Ty α}{O:Own ρ}{t u:TS}{LS:S→List Sl}{LB:B→List Sl}{KY:KyT κ} [DecidableEq κ]
noncomputable def sdA (m:List (κ×α)) (k:κ) (d:α):α×List (κ×α):=match getA m k with | some a=>(a,m) | none=>(d,putA m k d)
theorem zml_ {i:Nat}{m:List (κ×α)}{rk:Mo κ}{rv:Mo α}{rc:α×List (κ×α)→Mo α}{ek ev ec:TE}{R:R2}{g:α→α→Mo Bool}{r1 r2:α×List (κ×α)→Mo (Out ρ B S)}
  (hi:L[i]?=some (.ow (owD KY T) m)) (hT:Imm T) (hKT:Imm KY.T) (hk:EvF K ek E L rk KY.T) (hv:EvF K ev E L rv T) (hop:Op2 K R E T T g tyBl)
  (hc:∀ q:α×List (κ×α),EvF K ec E (L.set i (.ow (owD KY T) q.2)) (rc q) T) (h1:∀ q:α×List (κ×α),EvS K t E (L.set i (.ow (owD KY T) q.2)) (r1 q) LS LB O) (h2:∀ q:α×List (κ×α),EvS K u E (L.set i (.ow (owD KY T) q.2)) (r2 q) LS LB O) :
  EvS K (mIfS (mTest (tOp R (mSetD (mVar i) ek ev) ec)) t u) E L (rk.bind fun k=>rv.bind fun d=>.lim (m.length+1) ((Mo.ok (sdA m k d)).bind fun q=>(rc q).bind fun c=>(g q.1 c).bind fun b=>if b then r1 q else r2 q)) LS LB O:=by
 intro F0 H0 σ F h H D hL ok fin
 obtain ⟨p,kvs,e1,hp,hr,_⟩:=zbS_ hL hi ok
 show mVar i σ H fun x H1=>(match x with | .ref a=>∃ kvs,H1 a=some (.dK kvs) | _=>False)∧ek σ H1 fun y H2=>ev σ H2 fun z H3=>atD x y H3 fun a kvs k =>
  match valV kvs k with
  | some v=>ec σ H3 fun w H4=>R v w H4 fun x H5=>match x with | .bl k=>br k (t D σ H5) (u D σ H5) | _=>False
  | none=>kvs.length<sizeLine∧ec σ (upd H3 a (.dK (putK kvs k z))) fun w H4=>R z w H4 fun x H5=>match x with | .bl k=>br k (t D σ H5) (u D σ H5) | _=>False
 refine zeQ_ e1 ⟨⟨kvs,hp⟩,?_⟩
 refine hk σ (un F h) H _ (hL.froz ok.2.1) ok.thaw (zbx_ (G:=F) ok _ (.inl rfl) fin fun y F1 H1 hry x1 v1 hv1=>?_)
 obtain ⟨o,hs,ht⟩:=ok.back x1
 rw [hry] at fin
 have hL':=hL.mono hs
 have hv1':=hKT ht hv1
 refine hv σ (un _ h) H1 _ (hL'.froz o.2.1) o.thaw (zbx_ (G:=F) o _ (.inl rfl) fin fun d F2 H2 hrd x2 v2 hv2=>?_)
 obtain ⟨o',hs',ht'⟩:=o.back x2
 rw [hrd] at fin
 obtain ⟨hz,fin⟩:=zeA_ (show Fin K (Mo.lim (m.length+1) ((Mo.ok (sdA m y d)).bind fun q=>(rc q).bind fun c=>(g q.1 c).bind fun b=>if b then r1 q else r2 q)) E LS LB O F0 H0 D from fin)
 have hL2:=hL'.mono hs'
 obtain ⟨p',kvs',e1',hp',hr',mm⟩:=zbS_ hL2 hi o'
 rw [e1] at e1'; cases e1'
 have hv2':=hT ht' hv2
 have tail:∀ (q:α×List (κ×α)) (va:V) (h' H':Hp),sdA m y d=q→Hold (L.set i (.ow (owD KY T) q.2)) σ (less F2 h) h'→Okk F0 H0 (less F2 h) h' H'→T.R q.1 va (less F2 h) →
   ec σ H' fun w H3=>R va w H3 fun x H4=>match x with | .bl k=>br k (t D σ H4) (u D σ H4) | _=>False:=by
  intro q va h' H' hq hLq okq hva
  have fq:Fin K ((rc q).bind fun c=>(g q.1 c).bind fun b=>if b then r1 q else r2 q) E LS LB O F0 H0 D:=by rw [← hq]; exact fin
  refine hc q σ (un _ h') H' _ (hLq.froz okq.2.1) okq.thaw (zbx_ (G:=F) okq _ (.inl rfl) fq fun c F3 H3 hrc x3 w hw=>?_)
  obtain ⟨o3,hs3,ht3⟩:=okq.back x3
  rw [hrc] at fq
  have fq':Fin K ((g q.1 c).bind fun b=>if b then r1 q else r2 q) E LS LB O F0 H0 D:=fq
  refine hop q.1 c va w _ H3 _ o3.1.2.1 (T.mono hs3 hva) (hT ht3 hw) (zbx_ (G:=F) o3 _ (.inr rfl) fq' fun b F4 H4 hrb x4 v4 hv4=>?_)
  cases hv4
  rw [hrb] at fq'
  have f4:Fin K (if b then r1 q else r2 q) E LS LB O F0 H0 D:=fq'
  have L4:=(hLq.mono hs3).mono x4.1
  have o4:=o3.cold x4
  refine ⟨fun z=>?_,fun z=>?_⟩
  ·rw [if_pos z] at f4; exact h1 q F0 H0 σ _ h' H4 D L4 o4 f4
  ·rw [if_neg (by rw [z]; decide)] at f4; exact h2 q F0 H0 σ _ h' H4 D L4 o4 f4
 unfold atD
 simp only
 rw [KY.of (KY.T.mono hs' hv1')]
 refine ⟨kvs',hp',?_⟩
 rcases zc4_ hr' y with ⟨g1,g2⟩ | ⟨a,va,g1,g2,g3⟩
 ·rw [g2]
  obtain ⟨h',a1,a2⟩:=mm (putA m y d) (putK kvs' (KY.key y) v2) (zgH_ hr' y hv2')
  refine ⟨?_,tail (d,putA m y d) v2 h' _ (by unfold sdA; rw [g1]) a1 a2 hv2'⟩
  have:=Paired.length hr'
  lia
 ·rw [g2]
  refine tail (a,m) va h H2 (by unfold sdA; rw [g1]) ?_ o' g3
  show Hold (L.set i (.ow (owD KY T) m)) σ (less F2 h) h
  rw [zfI_ hi]; exact hL2
end
end L2
namespace L2
open PySem PySem.Spec PyProof.Rows
section
variable {X:Cx}{pins:Pnn}{σ:St}{H:Hp}{s:Shared}{d:Addr}{o:Obj}{kvs:List (Key×V)}
end
section
variable {X:Cx}{e:Expr}{te:TE}{apos cpos pos tpos:Pos}{elts:List Expr}{kk:Nat}
end
section
variable {F0 H0 F1 H1 F h H:Hp}{d:Addr}{o:Obj}{u:HO}
end
section
variable {K:Fgg}{E:XK}{α β γ ρ κ S B:Type}{L Li:List Sl}{T:Ty α}{O:Own ρ}{LB:B→List Sl}{KY:KyT κ}
theorem zk2_ [DecidableEq κ] {a:List (κ×α)}{v:V}{F:Hp}(h:(tyD KY T).R a v F):v≠.non:=by obtain ⟨p,vs,rfl,_⟩:=h; exact fun z=>V.noConfusion z
end
end L2
namespace L2
open PySem PySem.Spec PyProof.Rows
section
variable {K:Fgg}{E:XK}{α β γ ρ κ S B:Type}{F0 H0 F h H:Hp}{L:List Sl}{T:Ty α}{O:Own ρ}{t u:TS}{e e1 e2:TE}{LS:S→List Sl}{LB:B→List Sl}{KY:KyT κ}
theorem zfM_ {i:Nat}{o:Option α}{k:α→Mo (Out ρ B S)}(hi:L[i]?=some (.fz (tyOpt T) o)) (hk:∀ a,EvS K u E (L.set i (.fz T a)) (k a) LS LB O):EvS K u E L ((Mo.opt o).bind k) LS LB O:=by
 cases o with
 | none=>exact fun F0 H0 σ F h H D hL ok fin=>fin.elim
 | some a =>
  intro F0 H0 σ F h H D hL ok fin
  refine hk a F0 H0 σ F h H D ?_ ok fin
  obtain ⟨o,h1,h2,e1,j,⟨v,e2,r,_⟩,f⟩:=hL.at i hi
  subst e2
  have g:=f (.fz T a) (some v) h1 h j ⟨v,rfl,r⟩
  rw [zcZ_ e1] at g
  exact g
theorem zkA_ {c:TT}{rc:Mo Bool}{r1 r2:Mo (Out ρ B S)}(hc:EvT K c E L rc) (h1:EvS K (tRet e1) E L r1 LS LB O) (h2:EvS K (tRet e2) E L r2 LS LB O):EvS K (tRet (mIf c e1 e2)) E L (rc.bind fun b=>if b then r1 else r2) LS LB O:=s_if hc h1 h2
theorem zla_:Op2 K (mNeK K) E (tyOpt tyStr) tyStr (fun a b=>.ok (!decide (a=some b))) tyBl:=by
 rintro a b x y F H Q hs hx rfl k
 cases a with
 | none=>cases (show x=.non from hx); exact k.ok hs _ rfl
 | some a =>
  cases (show x=tx a from hx.1)
  refine k.ok hs _ ?_
  show V.bl _=V.bl _
  congr 2
  rw [decide_eq_decide]
  constructor
  ·intro h
   have h':a=b:=by simpa using h
   rw [h']
  ·intro h
   rw [Option.some.inj h]
variable [DecidableEq κ]
theorem zj2_ {r1:Mo (List (κ×α))}{r2:Mo κ}(hn:∀ a v F,T.R a v F→v≠.non) (h1:EvF K e1 E L r1 (tyD KY T)) (h2:EvF K e2 E L r2 KY.T):EvF K (mDGet1 e1 e2) E L (r1.bind fun m=>r2.bind fun k=>.ok (getA m k)) (tyOpt T):=by
 intro σ F H Q hL hs q
 refine h1 σ F H _ hL hs (q.bind.imp fun m F1 H1 x1 k1 v1 hv1=>?_)
 refine ⟨?_,?_⟩
 ·obtain ⟨p,kvs,rfl,hp,_⟩:=hv1
  exact ⟨kvs,x1.2.1 _ _ hp⟩
 ·refine h2 σ F1 H1 _ (hL.mono x1.1) x1.2.1 (k1.bind.imp fun k F2 H2 x2 k2 v2 hv2=>?_)
  refine at_d ((tyD KY T).mono x2.1 hv1) hv2 x2.2.1 fun p kvs hp hd=>?_
  refine k2.ok x2.2.1 _ ?_
  rcases zc4_ hd k with ⟨z1,z2⟩ | ⟨a',v,z1,z2,z3⟩
  ·rw [z1,z2]; rfl
  ·rw [z1,z2]; exact ⟨z3,hn _ _ _ z3⟩
theorem zjs_ {i:Nat}{m:List (κ×α)}{rk:Mo κ}{rv:Mo α}{ek ev:TE}{k:List (κ×α)→Mo (Out ρ B S)}(hi:L[i]?=some (.ow (owD KY T) m)) (hT:Imm T) (hKT:Imm KY.T) (hk:EvF K ek E L rk KY.T) (hv:EvF K ev E L rv T)
  (h1:∀ m',EvS K u E (L.set i (.ow (owD KY T) m')) (k m') LS LB O):EvS K (tSeq (tDrop (mSetD (mVar i) ek ev)) u) E L (rk.bind fun y=>rv.bind fun d=>.lim (m.length+1) ((Mo.ok (sdA m y d).2).bind k)) LS LB O:=by
 intro F0 H0 σ F h H D hL ok fin
 obtain ⟨p,kvs,e1,hp,hr,_⟩:=zbS_ hL hi ok
 show mVar i σ H fun x H1=>(match x with | .ref a=>∃ kvs,H1 a=some (.dK kvs) | _=>False)∧ek σ H1 fun y H2=>ev σ H2 fun z H3=>atD x y H3 fun a kvs k =>
  match valV kvs k with
  | some v=>u D σ H3
  | none=>kvs.length<sizeLine∧u D σ (upd H3 a (.dK (putK kvs k z)))
 refine zeQ_ e1 ⟨⟨kvs,hp⟩,?_⟩
 refine hk σ (un F h) H _ (hL.froz ok.2.1) ok.thaw (zbx_ (G:=F) ok _ (.inl rfl) fin fun y F1 H1 hry x1 v1 hv1=>?_)
 obtain ⟨o,hs,ht⟩:=ok.back x1
 rw [hry] at fin
 have hL':=hL.mono hs
 have hv1':=hKT ht hv1
 refine hv σ (un _ h) H1 _ (hL'.froz o.2.1) o.thaw (zbx_ (G:=F) o _ (.inl rfl) fin fun d F2 H2 hrd x2 v2 hv2=>?_)
 obtain ⟨o',hs',ht'⟩:=o.back x2
 rw [hrd] at fin
 obtain ⟨hz,fin⟩:=zeA_ (show Fin K (Mo.lim (m.length+1) ((Mo.ok (sdA m y d).2).bind k)) E LS LB O F0 H0 D from fin)
 have hL2:=hL'.mono hs'
 obtain ⟨p',kvs',e1',hp',hr',mm⟩:=zbS_ hL2 hi o'
 rw [e1] at e1'; cases e1'
 have hv2':=hT ht' hv2
 unfold atD
 simp only
 rw [KY.of (KY.T.mono hs' hv1')]
 refine ⟨kvs',hp',?_⟩
 rcases zc4_ hr' y with ⟨g1,g2⟩ | ⟨a,va,g1,g2,g3⟩
 ·rw [g2]
  obtain ⟨h',a1,a2⟩:=mm (putA m y d) (putK kvs' (KY.key y) v2) (zgH_ hr' y hv2')
  refine ⟨?_,h1 (putA m y d) F0 H0 σ _ h' _ D a1 a2 ?_⟩
  ·have:=Paired.length hr'
   lia
  ·have e:sdA m y d=(d,putA m y d):=by unfold sdA; rw [g1]
   rw [e] at fin; exact fin
 ·rw [g2]
  have e:sdA m y d=(a,m):=by unfold sdA; rw [g1]
  rw [e] at fin
  refine h1 m F0 H0 σ _ h H2 D ?_ o' fin
  rw [zfI_ hi]; exact hL2
end
noncomputable def mDict:List V→Hp→VK→Prop:=fun xs H Q=>match xs with
 | [.ref a]=>∃ kvs,H a=some (.dK kvs)∧∀ p,H p=none→Q (.ref p) (upd H p (.dK kvs))
 | _=>False
theorem zde_ {X:Cx}:CallR X (.type "dict") mDict:=by
 intro pins s σ H xs us Q I r h
 unfold mDict at h
 split at h
 ·rename_i a
  obtain ⟨kvs,hd,q⟩:=h
  obtain ⟨u,rfl,rx⟩:=vals1 r
  cases rx
  obtain ⟨z,lo,vs,rel,dd⟩:=zj5_ I.hok hd
  refine kt_call_dict lo dd (by rw [← rel.length]; exact z) fun h' hd' hs=>?_
  refine ⟨.ref s.heap.objs.size,_,I.laid (a:=s.heap.objs.size) (o:=.dK kvs) (t':=s.toks) (fun b o e=>?_) (Nat.le_refl _) ?_,rfl,q _ (I.hok.fresh (Nat.le_refl _))⟩
  ·exact (hs.2 b (Nat.ne_of_lt (Heap.lt_size e))).trans (Heap.get?_push_of_some _ e)
  ·obtain ⟨_,lo',_⟩:=zhi_ (P:=X.prog) (w:=X.w) (H:=H) s.heap I.big
   exact ⟨z,lo',vs,rel,hd'⟩
 ·exact h.elim
section
variable {K:Fgg}{E:XK}{α κ:Type}{T:Ty α}{KY:KyT κ} [DecidableEq κ]
theorem zgw_:BlO K mDict E (csLast (tyD KY T)) (fun m=>.ok m) (owD KY T):=by
 rintro c vs F H Q hs ⟨v,rfl,p,kvs,rfl,h,r⟩ q
 refine ⟨kvs,hs _ _ h,fun l hl=>?_⟩
 have q':OwnK (owD KY T) H Q c F (upd H l (.dK kvs)):=q F _ (.heap hs (zb4_ hl _))
 refine q' (.ref l) (one l (.dK kvs)) (fun b z=>?_) (fun b=>?_) (fun b o z=>?_) ⟨l,kvs,rfl,rfl,r⟩
 ·unfold one at z; split at z
  ·rename_i e; rw [e]; exact hl
  ·exact absurd rfl z
 ·unfold one; split
  ·rename_i e; rw [e]; exact .inl (hs.free hl)
  ·exact .inr rfl
 ·unfold one at z; split at z
  ·rename_i e; rw [e]; cases z; exact zau_
  ·cases z
end
end L2
namespace L2
open PySem PySem.Spec PyProof.Rows
noncomputable def eqDk (ka kb:List (Key×V)):Bool:=ka.length == kb.length && ka.all fun e=>match valV kb e.1 with | some v=>eqV e.2 v | none=>false
noncomputable def IntK (ka:List (Key×V)):Prop:=∀ e∈ka,(∃ i,e.1=Sum.inl i)∧flatV e.2=true
theorem zfG_ {P P':Program}{w w':World}:∀ {es:List DictEntry}{vs:List (Key×Value)},Pairs (mixKind P w) es vs→Pairs (mixKind P' w') es vs
 | _,_,.nil=>.nil
 | _,_,.cons a b c=>.cons a b (zfG_ c)
theorem zf2_ {P:Program}{w:World}:∀ {es:List DictEntry}{vs:List (Key×Value)},Pairs (mixKind P w) es vs→∀ e∈es,∃ kv∈vs,keyIs kv.1 e.key=true
 | _,_,.nil,e,h=>by cases h
 | _,_,.cons a b c,e,h=>by
  rcases List.mem_cons.mp h with rfl | h
  ·exact ⟨_,List.mem_cons_self,a⟩
  ·obtain ⟨kv,h1,h2⟩:=zf2_ c e h
   exact ⟨kv,List.mem_cons_of_mem _ h1,h2⟩
theorem zhj_ {P P':Program}{w w':World}{h:Heap}{a:Addr}{vs:List (Key×Value)}(hi:∀ e∈vs,∃ i,e.1=Sum.inl i) (d:h.DictOf (mixKind P w) a vs):h.DictOf (mixKind P' w') a vs:=by
 obtain ⟨o,es,ep,e,c,dd,hk,hp,hn⟩:=d
 refine ⟨o,es,ep,e,c,dd,fun x hx=>?_,zfG_ hp,hn⟩
 obtain ⟨k,h1,h2⟩:=hk x hx
 obtain ⟨kv,g1,g2⟩:=zf2_ hp x (by simpa using hx)
 obtain ⟨i,ei⟩:=hi kv g1
 have ek:k=kv.1:=(mixKind P w).inj x.key k kv.1 h1 g2
 refine ⟨k,h1,?_⟩
 rw [h2,ek,ei]; rfl
section
variable {X:Cx}{pins:Pnn}{σ:St}{H:Hp}{s:Shared}{A:Around}{p q:Addr}{ka kb:List (Key×V)}
theorem zkM_ {ka:List (Key×V)}{va:List (Key×Value)}(r:KV ka va) (i:IntK ka):∀ e∈va,∃ j,e.1=Sum.inl j:=by
 unfold KV at r
 induction r with
 | nil=>intro e h; cases h
 | cons h t ih =>
  rename_i x y _ _
  intro e he
  rcases List.mem_cons.mp he with rfl | he
  ·obtain ⟨⟨j,ej⟩,_⟩:=i x List.mem_cons_self
   exact ⟨j,by rw [← h.1,ej]⟩
  ·exact ih (fun e he=>i e (List.mem_cons_of_mem _ he)) e he
theorem zlr_ {ka:List (Key×V)}{va:List (Key×Value)}(r:KV ka va):ka.map (·.1)=va.map (·.1):=by
 unfold KV at r
 induction r with
 | nil=>rfl
 | cons h t ih=>rw [List.map_cons,List.map_cons,h.1,ih]
theorem zhV_ {vb:List (Key×Value)}(rb:KV kb vb) (ib:IntK kb):∀ {ka:List (Key×V)}{va:List (Key×Value)},KV ka va→IntK ka→PySem.W.KeqHits A s vb va (ka.all fun e=>match valV kb e.1 with | some v=>eqV e.2 v | none=>false):=by
 intro ka va r
 unfold KV at r
 induction r with
 | nil=>exact fun _=>.nil
 | cons h t ih =>
  rename_i x y ks vs
  intro i
  obtain ⟨k,v⟩:=y
  rw [List.all_cons]
  have rk:=rb.val x.1
  cases g:valV kb x.1 with
  | none =>
   rw [g] at rk
   cases g2:valueAt vb x.1 with
   | none=>rw [Bool.false_and]; exact .miss (by have z:x.1=k:=h.1; rw [← z]; exact g2)
   | some u=>rw [g2] at rk; exact rk.elim
  | some w =>
   rw [g] at rk
   cases g2:valueAt vb x.1 with
   | none=>rw [g2] at rk; exact rk.elim
   | some u =>
    rw [g2] at rk
    have fw:flatV w=true:=by
     unfold valV at g
     obtain ⟨e,he,hw⟩:=Option.map_eq_some_iff.mp g
     rw [← hw]; exact (ib e (List.mem_of_find?_eq_some he)).2
    exact .hit (by have z:x.1=k:=h.1; rw [← z]; exact g2) (zjC_ h.2 rk (i x List.mem_cons_self).2 fw) (ih fun e he=>i e (List.mem_cons_of_mem _ he))
theorem zkr_ (I:Inv X pins σ H s) (hp:H p=some (.dK ka)) (hq:H q=some (.dK kb)) (ia:IntK ka) (ib:IntK kb) (hu:A.units<cLine):SeqAt.RcAt A s (.ref p) (.ref q) (eqDk ka kb):=by
 intro prog w E Q h
 obtain ⟨_,la,va,ra,da⟩:=zj5_ I.hok hp
 obtain ⟨_,lb,vb,rb,db⟩:=zj5_ I.hok hq
 refine PySem.W.keq_eq la lb (zhj_ (zkM_ ra ia) da:s.heap.DictOf (mixKind prog w) p va) (zhj_ (zkM_ rb ib) db:s.heap.DictOf (mixKind prog w) q vb) hu (fun _=>zhV_ rb ib ra ia) ?_
 rw [← ra.length,← rb.length]
 exact h
theorem zhQ_ (hn:(ka.map (·.1)).Nodup) (ia:IntK ka):eqDk ka ka=true:=by
 unfold eqDk
 rw [beq_self_eq_true,Bool.true_and,List.all_eq_true]
 intro e he
 have g:valV ka e.1=some e.2:=by
  clear ia
  unfold valV
  induction ka with
  | nil=>cases he
  | cons x ks ih =>
   rw [List.find?_cons]
   rcases List.mem_cons.mp he with rfl | he
   ·simp
   ·have hne:x.1≠e.1:=fun z=>(List.nodup_cons.mp hn).1 (by show x.1∈_; rw [z]; exact List.mem_map.mpr ⟨e,he,rfl⟩)
    rw [decide_eq_false hne]
    exact ih (List.nodup_cons.mp hn).2 he
 rw [g]
 have f:=(ia e he).2
 show eqV e.2 e.2=true
 generalize e.2=v at f
 cases v<;>first | (cases f; done) | (simp [eqV]; done) | rfl
theorem zj6_ (I:Inv X pins σ H s) (hp:H p=some (.dK ka)) (hq:H q=some (.dK kb)) (ia:IntK ka) (ib:IntK kb) (hu:A.units<cLine):SeqAt.EqAt A s (.ref p) (.ref q) (eqDk ka kb):=by
 by_cases e:p=q
 ·subst e
  rw [hp] at hq; cases hq
  obtain ⟨_,_,va,ra,o,_,_,_,_,_,_,_,hn⟩:=zj5_ I.hok hp
  rw [zhQ_ (by rw [zlr_ ra]; exact hn) ia]
  exact SeqAt.EqAt.same _
 ·exact .of_refs e (zkr_ I hp hq ia ib hu)
end
noncomputable def mEqS (K:Fgg):R2:=fun x y H Q=>match x,y with
 | .non,.non=>Q (.bl true) H
 | .non,.ref q=>(∃ ys,SqT K H q ys)∧Q (.bl false) H
 | .ref p,.non=>(∃ xs,SqT K H p xs)∧Q (.bl false) H
 | .ref p,.ref q=>∃ d1 l1 d2 l2 ka kb n b,SqT K H p [.ref d1,l1]∧SqT K H q [.ref d2,l2]∧H d1=some (.dK ka)∧H d2=some (.dK kb)∧IntK ka∧IntK kb∧n≤50∧EqD K H n l1 l2 b∧Q (.bl (eqDk ka kb && b)) H
 | _,_=>False
theorem ziC_ {X:Cx}(hu:X.A.units+60<cLine):OpR X (compareOp .Eq) (mEqS X.K):=by
 intro pins s σ H x y v u Q I rx ry h
 unfold mEqS at h
 split at h
 ·cases rx; cases ry
  exact SeqAt.RcAt.none_none X.prog X.w X.xe _ ⟨.bl true,H,I,rfl,h⟩
 ·cases rx; cases ry
  obtain ⟨⟨ys,hq⟩,h⟩:=h
  obtain ⟨its,r1,p1,z1⟩:=I.tuple hq
  exact SeqAt.RcAt.none_tuple p1 (by lia) X.prog X.w X.xe _ ⟨.bl false,H,I,rfl,h⟩
 ·cases rx; cases ry
  obtain ⟨⟨ys,hq⟩,h⟩:=h
  obtain ⟨its,r1,p1,z1⟩:=I.tuple hq
  exact SeqAt.RcAt.tuple_none p1 (by lia) X.prog X.w X.xe _ ⟨.bl false,H,I,rfl,h⟩
 ·rename_i p q
  cases rx; cases ry
  obtain ⟨d1,l1,d2,l2,ka,kb,n,b,hp,hq,e1,e2,ia,ib,hn,hl,h⟩:=h
  obtain ⟨its,r1,p1,z1⟩:=I.tuple hp
  obtain ⟨its2,r2,p2,z2⟩:=I.tuple hq
  cases r1 with
  | cons a1 r1 =>
   cases r1 with
   | cons a2 r1 =>
    cases r1
    cases r2 with
    | cons b1 r2 =>
     cases r2 with
     | cons b2 r2 =>
      cases r2
      cases a1; cases b1
      have:=SeqAt.RcAt.tuples (A:=X.A) (e:=fun i=>match i with | 0=>eqDk ka kb | _=>b) (show s.heap.IsTuple p _ from p1) (show s.heap.IsTuple q _ from p2) (by lia) (fun j h1 h2=>by
       have hin:X.A.in1.units=X.A.units+1:=rfl
       match j with
       | 0=>exact zj6_ I e1 e2 ia ib (by lia)
       | 1=>exact (zhY_ I hl X.A.in1 _ _ (by lia) a2 b2).1
       | j+2=>exact absurd (show j+2<2 from h1) (by lia))
      exact this X.prog X.w X.xe _ ⟨.bl (eqDk ka kb && b),H,I,by simp [List.range_succ]; rfl,h⟩
 ·exact h.elim
section
variable {K:Fgg}{E:XK}
noncomputable def eqDm (m m':List (Int×List Nat)):Bool:=m.length == m'.length && m.all fun e=>decide (getA m' e.1=some e.2)
noncomputable def eqSn:Option (List (Int×List Nat)×List Int)→Option (List (Int×List Nat)×List Int)→Bool
 | none,none=>true
 | some a,some b=>eqDm a.1 b.1 && eqL (fun a b=>decide (a=b)) a.2 b.2
 | _,_=>false
noncomputable abbrev tySn:Ty (Option (List (Int×List Nat)×List Int)):=tyOpt (tyTup (csCons (tyD kInt tyStr) (csLast (tyL tyInt))))
theorem ziE_ {H:Hp}{m:List (Int×List Nat)}{ka:List (Key×V)}(h:DPr kInt tyStr H m ka):IntK ka:=by
 induction h with
 | nil=>intro e he; cases he
 | cons r t ih =>
  intro e he
  rcases List.mem_cons.mp he with rfl | he
  ·exact ⟨⟨_,r.1⟩,by rw [show _=tx _ from r.2]; rfl⟩
  ·exact ih e he
theorem zlI_ {H:Hp}{m m':List (Int×List Nat)}{ka kb:List (Key×V)}(h:DPr kInt tyStr H m ka) (h':DPr kInt tyStr H m' kb):eqDk ka kb=eqDm m m':=by
 unfold eqDk eqDm
 rw [← Paired.length h,← Paired.length h']
 congr 1
 induction h with
 | nil=>rfl
 | cons r t ih =>
  rw [List.all_cons,List.all_cons,ih]
  congr 1
  rename_i x y _ _
  rw [r.1]
  have e2:y.2=tx x.2:=r.2
  rcases zc4_ h' x.1 with ⟨z1,z2⟩ | ⟨a,v,z1,z2,z3⟩
  ·rw [show valV kb (kInt.key x.1)=none from z2,z1]; rfl
  ·rw [show valV kb (kInt.key x.1)=some v from z2,z1,e2,show v=tx a from z3]
   show eqV (tx x.2) (tx a)=decide (some a=some x.2)
   unfold eqV
   rw [Bool.eq_iff_iff,decide_eq_true_iff]
   constructor
   ·intro h
    have h:=eq_of_beq h
    injection h with h
    have:=congrArg Array.toList h
    rw [show a=x.2 by simpa using this.symm]
   ·intro h
    rw [Option.some.inj h]; exact beq_self_eq_true _
theorem ziA_:Op2 K (mEqS K) E tySn tySn (fun a b=>.ok (eqSn a b)) tyBl:=by
 rintro a b x y F H Q hs hx hy k
 cases a with
 | none =>
  cases (show x=.non from hx)
  cases b with
  | none=>cases (show y=.non from hy); exact k.ok hs _ rfl
  | some b =>
   obtain ⟨⟨q,ws,rfl,hq,_⟩,_⟩:=hy
   exact ⟨⟨ws,.inl (.of (hs _ _ hq))⟩,k.ok hs _ rfl⟩
 | some a =>
  obtain ⟨⟨p,us,rfl,hp,v1,us2,rfl,⟨d1,ka,rfl,hd1,r1⟩,v2,rfl,hl1⟩,_⟩:=hx
  cases b with
  | none =>
   cases (show y=.non from hy)
   exact ⟨⟨_,.inl (.of (hs _ _ hp))⟩,k.ok hs _ rfl⟩
  | some b =>
   obtain ⟨⟨q,ws,rfl,hq,w1,ws2,rfl,⟨d2,kb,rfl,hd2,r2⟩,w2,rfl,hl2⟩,_⟩:=hy
   refine ⟨d1,v2,d2,w2,ka,kb,1,_,.inl (.of (hs _ _ hp)),.inl (.of (hs _ _ hq)),hs _ _ hd1,hs _ _ hd2,ziE_ r1,ziE_ r2,by decide,(zjI_ zhd_).eq ((tyL tyInt).mono hs hl1) ((tyL tyInt).mono hs hl2),k.ok hs _ ?_⟩
   show V.bl _=V.bl _
   rw [zlI_ r1 r2]; rfl
end
end L2
namespace L2
open PySem PySem.Spec PyProof.Rows
section
variable {K:Fgg}{E:XK}{L:List Sl}{e:TE}
noncomputable def ptlR (c:Option (List Nat)) (v:V) (H:Hp):Prop:=∃ p,v=.ref p∧H p=some (.tup (match c with | none=>[] | some s=>[tx s]))
noncomputable abbrev tyPtl:Ty (Option (List Nat)):=⟨ptlR,fun g ⟨p,e,h⟩=>⟨p,e,g _ _ h⟩⟩
theorem zjl_ {r:Mo Pas}(h:EvF K e E L r tyPass):EvF K (tSl (rSlT K) e (mPart (tC (.int 2))) tNoPart) E L (r.bind fun c=>.ok c.2) tyPtl:=by
 intro σ F H Q hL hs q
 refine h σ F H _ hL hs (q.bind.imp fun c F1 H1 x1 k1 v ⟨p,ev,hp⟩=>?_)
 subst ev
 obtain ⟨c1,c2⟩:=c
 cases c2 with
 | none=>exact ⟨p,_,rfl,.of (x1.2.1 _ _ hp),fun z=>absurd z.1 (by show ¬ (HT.sIx 2 0 (some 2)=0); decide),fun q hq=>k1 _ _ (Ext.new x1.2.1 hq) _ ⟨q,rfl,zau_⟩⟩
 | some s=>exact ⟨p,_,rfl,.of (x1.2.1 _ _ hp),fun z=>absurd z.1 (by show ¬ (HT.sIx 3 0 (some 2)=0); decide),fun q hq=>k1 _ _ (Ext.new x1.2.1 hq) _ ⟨q,rfl,zau_⟩⟩
theorem zlq_:Op2 K (rCatT K) E (tyTup (csCons tyStr (csLast tyInt))) tyPtl (fun a b=>.grd (a.1=pTag (0,b)) (.ok (a.2,b))) tyPass:=by
 rintro ⟨a1,a2⟩ b x y F H Q hs ⟨p,vs,rfl,hp,v1,us,rfl,rfl,v2,rfl,rfl⟩ ⟨p2,rfl,hp2⟩ q
 obtain ⟨c,q⟩:=q.grd
 have c:a1=pTag (0,b):=c
 subst c
 refine ⟨p,p2,_,_,rfl,rfl,.of (hs _ _ hp),.of (hs _ _ hp2),(fun z=>by cases z),?_,?_,?_⟩
 ·cases b with
  | none=>exact zbH_ (by show 2≤100000; decide)
  | some s=>exact zbH_ (by show 3≤100000; decide)
 ·intro z
  cases b with
  | none=>exact q.ok hs _ ⟨p,rfl,hp⟩
  | some s=>cases z
 ·intro z p3 hp3
  cases b with
  | none=>exact absurd rfl z
  | some s=>exact q _ _ (Ext.new hs hp3) _ ⟨p3,rfl,zau_⟩
theorem zgU_:Bl K (mLen K) E (csLast tyPass) (fun c=>.ok (if c.2.isSome then 3 else 2:Int)) tyInt:=by
 rintro ⟨c1,c2⟩ vs F H Q hs ⟨v,rfl,p,rfl,h⟩ q
 cases c2 with
 | none=>exact ⟨_,.inr (.of (hs _ _ h)),q.ok hs _ rfl⟩
 | some s=>exact ⟨_,.inr (.of (hs _ _ h)),q.ok hs _ rfl⟩
end
end L2
namespace K17
open PySem PySem.Spec PyProof.Rows L2
theorem S4 {a b c d:Sl}{L L':List Sl}(h:Sub L L'):Sub (a::b::c::d::L) (a::b::c::d::L'):=.same (.same (.same (.same h)))
noncomputable abbrev Qn0:List Str:=["_law_script", "_law_signs", "_law_ways", "_law_start", "_law_hero", "_law_reach", "_law_row", "_law_cell", "_law_one", "_law_other", "_law_handed", "_law_found"]
noncomputable abbrev Qn1:List Str:=["_law_cell", "_law_hero", "_law_start", "_law_reach", "_law_share", "_law_signs", "_law_number", "_law_column"]
noncomputable abbrev Qn2:List Str:=["_law_found", "_law_row", "_law_other"]
noncomputable abbrev Qn3:List Str:=["signs", "one", "other"]
noncomputable abbrev Qn4:List Str:=["_law_cell", "_law_hero", "_law_start", "_law_reach", "_law_share"]
noncomputable abbrev Qn5:List Str:=["_law_deck", "_law_one", "_law_at", "_law_found", "_law_card", "_law_here"]
noncomputable abbrev Qn6:List Str:=["signs", "one", "other", "shared", "low", "high", "column"]
noncomputable abbrev Qn7:List Str:=["_law_row", "_law_way", "_law_at", "_law_one", "_law_old"]
noncomputable abbrev Qn8:List Str:=["_law_row", "_law_way", "_law_at", "_law_one"]
noncomputable abbrev Qn9:List Str:=["_law_script", "_law_k"]
noncomputable abbrev Qn10:List Str:=["columns", "beginning"]
noncomputable abbrev Qn11:List Str:=["_law_deck", "_law_row", "_law_found", "_law_one"]
noncomputable abbrev Qn12:List Str:=["_law_row", "_law_picks", "_law_key", "_law_one"]
noncomputable abbrev Qn13:List Str:=["row", "other", "sense", "other_sense", "deck"]
noncomputable abbrev Qn14:List Str:=["signs", "others"]
noncomputable abbrev Qn15:List Str:=["_law_found", "_law_card", "_law_sign"]
noncomputable abbrev Qn16:List Str:=["signs", "others", "column", "seen"]
noncomputable abbrev Qn17:List Str:=["signs", "mark"]
noncomputable abbrev Qq0:=(tyTup (csCons (tyD kInt tyStr) (csLast (tyL tyInt))))
noncomputable abbrev Qq1:=(List (Int×(List Nat)))
noncomputable def zbi_ (p_script:(List Int)) (p_k:Int):Mo (Out Int Unit Unit) :=
 (thenO (S:=Unit) (Mo.bind (Mo.bind (Mo.ok p_k) fun a_2=>Mo.bind (Mo.bind (Mo.ok p_script) fun c_1=>Mo.ok (c_1.length:Int)) fun b_3=>Mo.ok (decide (a_2<b_3))) fun c_4=>if c_4 then (Mo.bind (Mo.bind (Mo.ok p_script) fun a_6=>Mo.bind (Mo.ok p_k) fun b_7=>Mo.opt (atI a_6 b_7)) fun r_8=>Mo.ok (.rt r_8)) else (Mo.ok (.nx ()))) fun _=>(Mo.bind (Mo.ok (0:Int)) fun r_9=>Mo.ok (.rt r_9)))
noncomputable def z6_ (p_script:(List Int)) (p_k:Int):Mo Int:=fnO (zbi_ p_script p_k)
noncomputable def zce_ (p_cell:Int) (p_hero:(List Nat)) (p_start:Int) (p_reach:Int) (p_share:Int):Mo (Out Pas Unit Unit) :=
 (Mo.bind (Mo.ok (SG:List Nat)) fun signs_1=>(Mo.bind (Mo.bind (Mo.bind (Mo.ok p_cell) fun a_3=>Mo.bind (Mo.ok (2147483647:Int)) fun b_4=>Mo.grd (0<b_4) (Mo.ok (a_3 % b_4))) fun a_5=>Mo.bind (Mo.ok (69621:Int)) fun b_6=>Mo.ok (a_5+b_6)) fun number_2=>(Mo.bind (Mo.bind (Mo.bind (Mo.ok number_2) fun a_8=>Mo.bind (Mo.ok number_2) fun b_9=>Mo.grd (IntMulOk a_8 b_9) (Mo.ok (a_8*b_9))) fun a_10=>Mo.bind (Mo.ok (2147483629:Int)) fun b_11=>Mo.grd (0<b_11) (Mo.ok (a_10 % b_11))) fun number_7=>(Mo.bind (Mo.bind (Mo.ok (1:Int)) fun a_21=>Mo.bind (Mo.bind (Mo.bind (Mo.ok p_start) fun a_17=>Mo.bind (Mo.bind (Mo.bind (Mo.ok number_7) fun a_13=>Mo.bind (Mo.ok (8:Int)) fun b_14=>Mo.grd (CDivG a_13 b_14) (Mo.ok (a_13 / b_14))) fun a_15=>Mo.bind (Mo.ok p_reach) fun b_16=>Mo.grd (0<b_16) (Mo.ok (a_15 % b_16))) fun b_18=>Mo.ok (a_17+b_18)) fun a_19=>Mo.bind (Mo.ok (36:Int)) fun b_20=>Mo.grd (0<b_20) (Mo.ok (a_19 % b_20))) fun b_22=>Mo.ok (a_21+b_22)) fun column_12=>(thenO (S:=Unit) (Mo.bind (Mo.bind (Mo.bind (Mo.ok number_7) fun a_23=>Mo.bind (Mo.ok (8:Int)) fun b_24=>Mo.grd (0<b_24) (Mo.ok (a_23 % b_24))) fun a_25=>Mo.bind (Mo.ok p_share) fun b_26=>Mo.ok (decide (b_26≤a_25))) fun c_27=>if c_27 then (Mo.bind (Mo.bind (Mo.ok column_12) fun a_29=>Mo.ok ((a_29,none):Pas)) fun r_30=>Mo.ok (.rt r_30)) else (Mo.ok (.nx ()))) fun _=>(thenO (S:=Unit) (Mo.bind (Mo.bind (Mo.bind (Mo.bind (Mo.ok number_7) fun a_31=>Mo.bind (Mo.ok (512:Int)) fun b_32=>Mo.grd (CDivG a_31 b_32) (Mo.ok (a_31 / b_32))) fun a_33=>Mo.bind (Mo.ok (7:Int)) fun b_34=>Mo.grd (0<b_34) (Mo.ok (a_33 % b_34))) fun a_35=>Mo.bind (Mo.ok (1:Int)) fun b_36=>Mo.ok (decide (a_35=b_36))) fun c_37=>if c_37 then (Mo.bind (Mo.bind (Mo.ok column_12) fun a_45=>Mo.bind (Mo.bind (Mo.ok signs_1) fun a_43=>Mo.bind (Mo.bind (Mo.bind (Mo.ok number_7) fun a_39=>Mo.bind (Mo.ok (4096:Int)) fun b_40=>Mo.grd (CDivG a_39 b_40) (Mo.ok (a_39 / b_40))) fun a_41=>Mo.bind (Mo.ok (37:Int)) fun b_42=>Mo.grd (0<b_42) (Mo.ok (a_41 % b_42))) fun b_44=>Mo.lim a_43.length (Mo.opt ((atI a_43 b_44).map fun c=>[c]))) fun b_46=>Mo.ok (a_45,some b_46)) fun r_47=>Mo.ok (.rt r_47)) else (Mo.ok (.nx ()))) fun _=>(Mo.bind (Mo.bind (Mo.ok column_12) fun a_52=>Mo.bind (Mo.bind (Mo.ok p_hero) fun a_50=>Mo.bind (Mo.bind (Mo.ok column_12) fun a_48=>Mo.bind (Mo.ok (1:Int)) fun b_49=>Mo.ok (a_48-b_49)) fun b_51=>Mo.lim a_50.length (Mo.opt ((atI a_50 b_51).map fun c=>[c]))) fun b_53=>Mo.ok (a_52,some b_53)) fun r_54=>Mo.ok (.rt r_54))))))))
noncomputable def zbJ_ (p_cell:Int) (p_hero:(List Nat)) (p_start:Int) (p_reach:Int) (p_share:Int):Mo Pas:=fnO (zce_ p_cell p_hero p_start p_reach p_share)
noncomputable def zbe_ (p_row:(List Pas)) (p_way:Int) (p_at:Int) (p_one:Pas):Mo (Out (List Pas) Unit Unit) :=
 (thenO (S:=Unit) (Mo.bind (Mo.bind (Mo.ok p_row) fun a_1=>Mo.bind (Mo.ok ([]:List Pas)) fun b_2=>Mo.ok (((eqL (fun a b=>decide (a=b))) a_1 b_2))) fun c_3=>if c_3 then (Mo.bind (Mo.bind (Mo.ok p_one) fun c_5=>Mo.ok [c_5]) fun r_6=>Mo.ok (.rt r_6)) else (Mo.ok (.nx ()))) fun _=>(Mo.bind (Mo.bind (Mo.ok p_at) fun a_9=>Mo.bind (Mo.bind (Mo.ok p_row) fun c_8=>Mo.ok (c_8.length:Int)) fun b_10=>Mo.grd (0<b_10) (Mo.ok (a_9 % b_10))) fun at_7=>(Mo.bind (Mo.bind (Mo.ok p_row) fun a_12=>Mo.bind (Mo.ok at_7) fun b_13=>Mo.opt (atI a_12 b_13)) fun old_11=>(thenO (S:=Unit) (Mo.bind (Mo.bind (Mo.ok p_way) fun a_14=>Mo.bind (Mo.ok (1:Int)) fun b_15=>Mo.ok (decide (a_14=b_15))) fun c_16=>if c_16 then (Mo.bind (Mo.bind (Mo.bind (Mo.ok p_row) fun a_19=>Mo.bind (Mo.ok none) fun b_20=>Mo.bind (Mo.bind (Mo.ok at_7) fun i_18=>Mo.ok (some i_18)) fun d_21=>Mo.ok (cutG a_19 b_20 d_21)) fun a_28=>Mo.bind (Mo.bind (Mo.ok p_row) fun a_25=>Mo.bind (Mo.bind (Mo.bind (Mo.ok at_7) fun a_22=>Mo.bind (Mo.ok (1:Int)) fun b_23=>Mo.ok (a_22+b_23)) fun i_24=>Mo.ok (some i_24)) fun b_26=>Mo.bind (Mo.ok none) fun d_27=>Mo.ok (cutG a_25 b_26 d_27)) fun b_29=>Mo.lim (a_28.length+b_29.length) (Mo.ok (a_28++b_29))) fun r_30=>Mo.ok (.rt r_30)) else (Mo.ok (.nx ()))) fun _=>(thenO (S:=Unit) (Mo.bind (Mo.bind (Mo.ok p_way) fun a_31=>Mo.bind (Mo.ok (2:Int)) fun b_32=>Mo.ok (decide (a_31=b_32))) fun c_33=>if c_33 then (Mo.bind (Mo.bind (Mo.bind (Mo.bind (Mo.ok p_row) fun a_36=>Mo.bind (Mo.ok none) fun b_37=>Mo.bind (Mo.bind (Mo.ok at_7) fun i_35=>Mo.ok (some i_35)) fun d_38=>Mo.ok (cutG a_36 b_37 d_38)) fun a_40=>Mo.bind (Mo.bind (Mo.ok old_11) fun c_39=>Mo.ok [c_39]) fun b_41=>Mo.lim (a_40.length+b_41.length) (Mo.ok (a_40++b_41))) fun a_46=>Mo.bind (Mo.bind (Mo.ok p_row) fun a_43=>Mo.bind (Mo.bind (Mo.ok at_7) fun i_42=>Mo.ok (some i_42)) fun b_44=>Mo.bind (Mo.ok none) fun d_45=>Mo.ok (cutG a_43 b_44 d_45)) fun b_47=>Mo.lim (a_46.length+b_47.length) (Mo.ok (a_46++b_47))) fun r_48=>Mo.ok (.rt r_48)) else (Mo.ok (.nx ()))) fun _=>(thenO (S:=Unit) (Mo.bind (Mo.bind (Mo.ok p_way) fun a_49=>Mo.bind (Mo.ok (3:Int)) fun b_50=>Mo.ok (decide (a_49=b_50))) fun c_51=>if c_51 then (Mo.bind (Mo.bind (Mo.bind (Mo.bind (Mo.bind (Mo.ok p_row) fun a_54=>Mo.bind (Mo.ok none) fun b_55=>Mo.bind (Mo.bind (Mo.ok at_7) fun i_53=>Mo.ok (some i_53)) fun d_56=>Mo.ok (cutG a_54 b_55 d_56)) fun a_66=>Mo.bind (Mo.bind (Mo.ok p_row) fun a_63=>Mo.bind (Mo.bind (Mo.bind (Mo.ok at_7) fun a_57=>Mo.bind (Mo.ok (1:Int)) fun b_58=>Mo.ok (a_57+b_58)) fun i_59=>Mo.ok (some i_59)) fun b_64=>Mo.bind (Mo.bind (Mo.bind (Mo.ok at_7) fun a_60=>Mo.bind (Mo.ok (2:Int)) fun b_61=>Mo.ok (a_60+b_61)) fun i_62=>Mo.ok (some i_62)) fun d_65=>Mo.ok (cutG a_63 b_64 d_65)) fun b_67=>Mo.lim (a_66.length+b_67.length) (Mo.ok (a_66++b_67))) fun a_69=>Mo.bind (Mo.bind (Mo.ok old_11) fun c_68=>Mo.ok [c_68]) fun b_70=>Mo.lim (a_69.length+b_70.length) (Mo.ok (a_69++b_70))) fun a_77=>Mo.bind (Mo.bind (Mo.ok p_row) fun a_74=>Mo.bind (Mo.bind (Mo.bind (Mo.ok at_7) fun a_71=>Mo.bind (Mo.ok (2:Int)) fun b_72=>Mo.ok (a_71+b_72)) fun i_73=>Mo.ok (some i_73)) fun b_75=>Mo.bind (Mo.ok none) fun d_76=>Mo.ok (cutG a_74 b_75 d_76)) fun b_78=>Mo.lim (a_77.length+b_78.length) (Mo.ok (a_77++b_78))) fun r_79=>Mo.ok (.rt r_79)) else (Mo.ok (.nx ()))) fun _=>(thenO (S:=Unit) (Mo.bind (Mo.bind (Mo.ok p_way) fun a_80=>Mo.bind (Mo.ok (4:Int)) fun b_81=>Mo.ok (decide (a_80=b_81))) fun c_82=>if c_82 then (Mo.bind (Mo.bind (Mo.bind (Mo.bind (Mo.ok p_row) fun a_85=>Mo.bind (Mo.ok none) fun b_86=>Mo.bind (Mo.bind (Mo.ok at_7) fun i_84=>Mo.ok (some i_84)) fun d_87=>Mo.ok (cutG a_85 b_86 d_87)) fun a_94=>Mo.bind (Mo.bind (Mo.ok p_row) fun a_91=>Mo.bind (Mo.bind (Mo.bind (Mo.ok at_7) fun a_88=>Mo.bind (Mo.ok (1:Int)) fun b_89=>Mo.ok (a_88+b_89)) fun i_90=>Mo.ok (some i_90)) fun b_92=>Mo.bind (Mo.ok none) fun d_93=>Mo.ok (cutG a_91 b_92 d_93)) fun b_95=>Mo.lim (a_94.length+b_95.length) (Mo.ok (a_94++b_95))) fun a_97=>Mo.bind (Mo.bind (Mo.ok old_11) fun c_96=>Mo.ok [c_96]) fun b_98=>Mo.lim (a_97.length+b_98.length) (Mo.ok (a_97++b_98))) fun r_99=>Mo.ok (.rt r_99)) else (Mo.ok (.nx ()))) fun _=>(thenO (S:=Unit) (Mo.bind (Mo.bind (Mo.ok p_way) fun a_100=>Mo.bind (Mo.ok (5:Int)) fun b_101=>Mo.ok (decide (a_100=b_101))) fun c_102=>if c_102 then (Mo.bind (Mo.bind (Mo.bind (Mo.bind (Mo.ok old_11) fun c_104=>Mo.ok [c_104]) fun a_109=>Mo.bind (Mo.bind (Mo.ok p_row) fun a_106=>Mo.bind (Mo.ok none) fun b_107=>Mo.bind (Mo.bind (Mo.ok at_7) fun i_105=>Mo.ok (some i_105)) fun d_108=>Mo.ok (cutG a_106 b_107 d_108)) fun b_110=>Mo.lim (a_109.length+b_110.length) (Mo.ok (a_109++b_110))) fun a_117=>Mo.bind (Mo.bind (Mo.ok p_row) fun a_114=>Mo.bind (Mo.bind (Mo.bind (Mo.ok at_7) fun a_111=>Mo.bind (Mo.ok (1:Int)) fun b_112=>Mo.ok (a_111+b_112)) fun i_113=>Mo.ok (some i_113)) fun b_115=>Mo.bind (Mo.ok none) fun d_116=>Mo.ok (cutG a_114 b_115 d_116)) fun b_118=>Mo.lim (a_117.length+b_118.length) (Mo.ok (a_117++b_118))) fun r_119=>Mo.ok (.rt r_119)) else (Mo.ok (.nx ()))) fun _=>(thenO (S:=Unit) (Mo.bind (Mo.bind (Mo.ok p_way) fun a_120=>Mo.bind (Mo.ok (6:Int)) fun b_121=>Mo.ok (decide (a_120=b_121))) fun c_122=>if c_122 then (Mo.bind (Mo.bind (Mo.bind (Mo.bind (Mo.ok p_row) fun a_125=>Mo.bind (Mo.ok none) fun b_126=>Mo.bind (Mo.bind (Mo.ok at_7) fun i_124=>Mo.ok (some i_124)) fun d_127=>Mo.ok (cutG a_125 b_126 d_127)) fun a_136=>Mo.bind (Mo.bind (Mo.bind (Mo.bind (Mo.bind (Mo.ok old_11) fun a_128=>Mo.ok (pTag a_128)) fun a_130=>Mo.bind (Mo.bind (Mo.ok p_one) fun a_129=>Mo.ok a_129.1) fun c_131=>Mo.ok (a_130,c_131)) fun a_133=>Mo.bind (Mo.bind (Mo.ok old_11) fun d_132=>Mo.ok d_132.2) fun b_134=>Mo.grd (a_133.1=pTag (0,b_134)) (Mo.ok (a_133.2,b_134))) fun c_135=>Mo.ok [c_135]) fun b_137=>Mo.lim (a_136.length+b_137.length) (Mo.ok (a_136++b_137))) fun a_144=>Mo.bind (Mo.bind (Mo.ok p_row) fun a_141=>Mo.bind (Mo.bind (Mo.bind (Mo.ok at_7) fun a_138=>Mo.bind (Mo.ok (1:Int)) fun b_139=>Mo.ok (a_138+b_139)) fun i_140=>Mo.ok (some i_140)) fun b_142=>Mo.bind (Mo.ok none) fun d_143=>Mo.ok (cutG a_141 b_142 d_143)) fun b_145=>Mo.lim (a_144.length+b_145.length) (Mo.ok (a_144++b_145))) fun r_146=>Mo.ok (.rt r_146)) else (Mo.ok (.nx ()))) fun _=>(thenO (S:=Unit) (Mo.bind (Mo.bind (Mo.bind (Mo.ok p_way) fun a_147=>Mo.bind (Mo.ok (7:Int)) fun b_148=>Mo.ok (decide (a_147=b_148))) fun c_156=>if c_156 then (Mo.bind (Mo.bind (Mo.bind (Mo.ok old_11) fun c_149=>Mo.ok (if c_149.2.isSome then 3 else 2:Int)) fun a_150=>Mo.bind (Mo.ok (3:Int)) fun b_151=>Mo.ok (decide (a_150=b_151))) fun c_155=>if c_155 then (Mo.bind (Mo.bind (Mo.ok p_one) fun c_152=>Mo.ok (if c_152.2.isSome then 3 else 2:Int)) fun a_153=>Mo.bind (Mo.ok (3:Int)) fun b_154=>Mo.ok (decide (a_153=b_154))) else Mo.ok false) else Mo.ok false) fun c_157=>if c_157 then (Mo.bind (Mo.bind (Mo.bind (Mo.bind (Mo.ok p_row) fun a_160=>Mo.bind (Mo.ok none) fun b_161=>Mo.bind (Mo.bind (Mo.ok at_7) fun i_159=>Mo.ok (some i_159)) fun d_162=>Mo.ok (cutG a_160 b_161 d_162)) fun a_168=>Mo.bind (Mo.bind (Mo.bind (Mo.bind (Mo.ok old_11) fun a_163=>Mo.ok a_163.1) fun a_165=>Mo.bind (Mo.bind (Mo.ok p_one) fun a_164=>Mo.opt a_164.2) fun b_166=>Mo.ok (a_165,some b_166)) fun c_167=>Mo.ok [c_167]) fun b_169=>Mo.lim (a_168.length+b_169.length) (Mo.ok (a_168++b_169))) fun a_176=>Mo.bind (Mo.bind (Mo.ok p_row) fun a_173=>Mo.bind (Mo.bind (Mo.bind (Mo.ok at_7) fun a_170=>Mo.bind (Mo.ok (1:Int)) fun b_171=>Mo.ok (a_170+b_171)) fun i_172=>Mo.ok (some i_172)) fun b_174=>Mo.bind (Mo.ok none) fun d_175=>Mo.ok (cutG a_173 b_174 d_175)) fun b_177=>Mo.lim (a_176.length+b_177.length) (Mo.ok (a_176++b_177))) fun r_178=>Mo.ok (.rt r_178)) else (Mo.ok (.nx ()))) fun _=>(thenO (S:=Unit) (Mo.bind (Mo.bind (Mo.ok p_way) fun a_179=>Mo.bind (Mo.ok (8:Int)) fun b_180=>Mo.ok (decide (a_179=b_180))) fun c_181=>if c_181 then (Mo.bind (Mo.bind (Mo.bind (Mo.bind (Mo.ok p_row) fun a_184=>Mo.bind (Mo.ok none) fun b_185=>Mo.bind (Mo.bind (Mo.ok at_7) fun i_183=>Mo.ok (some i_183)) fun d_186=>Mo.ok (cutG a_184 b_185 d_186)) fun a_188=>Mo.bind (Mo.bind (Mo.ok p_one) fun c_187=>Mo.ok [c_187]) fun b_189=>Mo.lim (a_188.length+b_189.length) (Mo.ok (a_188++b_189))) fun a_194=>Mo.bind (Mo.bind (Mo.ok p_row) fun a_191=>Mo.bind (Mo.bind (Mo.ok at_7) fun i_190=>Mo.ok (some i_190)) fun b_192=>Mo.bind (Mo.ok none) fun d_193=>Mo.ok (cutG a_191 b_192 d_193)) fun b_195=>Mo.lim (a_194.length+b_195.length) (Mo.ok (a_194++b_195))) fun r_196=>Mo.ok (.rt r_196)) else (Mo.ok (.nx ()))) fun _=>(thenO (S:=Unit) (Mo.bind (Mo.bind (Mo.bind (Mo.ok p_way) fun a_197=>Mo.bind (Mo.ok (9:Int)) fun b_198=>Mo.ok (decide (a_197=b_198))) fun c_202=>if c_202 then (Mo.bind (Mo.bind (Mo.ok p_one) fun c_199=>Mo.ok (if c_199.2.isSome then 3 else 2:Int)) fun a_200=>Mo.bind (Mo.ok (3:Int)) fun b_201=>Mo.ok (decide (a_200=b_201))) else Mo.ok false) fun c_203=>if c_203 then (Mo.bind (Mo.bind (Mo.bind (Mo.bind (Mo.ok p_row) fun a_206=>Mo.bind (Mo.ok none) fun b_207=>Mo.bind (Mo.bind (Mo.ok at_7) fun i_205=>Mo.ok (some i_205)) fun d_208=>Mo.ok (cutG a_206 b_207 d_208)) fun a_214=>Mo.bind (Mo.bind (Mo.bind (Mo.bind (Mo.ok old_11) fun a_209=>Mo.ok a_209.1) fun a_211=>Mo.bind (Mo.bind (Mo.ok p_one) fun a_210=>Mo.opt a_210.2) fun b_212=>Mo.ok (a_211,some b_212)) fun c_213=>Mo.ok [c_213]) fun b_215=>Mo.lim (a_214.length+b_215.length) (Mo.ok (a_214++b_215))) fun a_222=>Mo.bind (Mo.bind (Mo.ok p_row) fun a_219=>Mo.bind (Mo.bind (Mo.bind (Mo.ok at_7) fun a_216=>Mo.bind (Mo.ok (1:Int)) fun b_217=>Mo.ok (a_216+b_217)) fun i_218=>Mo.ok (some i_218)) fun b_220=>Mo.bind (Mo.ok none) fun d_221=>Mo.ok (cutG a_219 b_220 d_221)) fun b_223=>Mo.lim (a_222.length+b_223.length) (Mo.ok (a_222++b_223))) fun r_224=>Mo.ok (.rt r_224)) else (Mo.ok (.nx ()))) fun _=>(Mo.bind (Mo.bind (Mo.ok p_row) fun c_225=>Mo.ok c_225) fun r_226=>Mo.ok (.rt r_226))))))))))))))
noncomputable def zbb_ (p_row:(List Pas)) (p_way:Int) (p_at:Int) (p_one:Pas):Mo (List Pas):=fnO (zbe_ p_row p_way p_at p_one)
noncomputable def za0_ (p_row:(List Pas)):Mo (Out (Option Qq1) Unit Unit) :=
 (Mo.bind (Mo.ok ([]:Qq1)) fun signs_1=>(thenO (S:=Qq1) (Mo.bind (Mo.ok p_row) fun xs_18=>forO (fun (s_2:Qq1) x_3=>(thenO (S:=Qq1) (Mo.bind (Mo.bind (Mo.bind (Mo.ok x_3) fun a_4=>Mo.ok (pTag a_4)) fun a_5=>Mo.bind (Mo.ok ([112,105,99,107]:List Nat)) fun b_6=>Mo.ok (decide (a_5=b_6))) fun c_7=>if c_7 then (Mo.bind (Mo.bind (Mo.ok x_3) fun a_14=>Mo.ok a_14.1) fun k_9=>Mo.bind (Mo.bind (Mo.ok x_3) fun a_15=>Mo.opt a_15.2) fun d_10=>Mo.lim (s_2.length+1) (Mo.bind (Mo.ok (sdA s_2 k_9 d_10)) fun q_11=>Mo.bind (Mo.bind (Mo.ok x_3) fun a_16=>Mo.opt a_16.2) fun c_12=>Mo.bind (Mo.ok (!decide (q_11.1=c_12))) fun b_13=>if b_13 then (Mo.bind (Mo.ok (none:(Option Qq1))) fun r_17=>Mo.ok (.rt r_17)) else (Mo.ok (.nx q_11.2)))) else (Mo.ok (.nx s_2))) fun s_8=>(Mo.ok (.nx s_8)))) xs_18 signs_1) fun s_2=>(Mo.bind (Mo.bind (Mo.ok s_2) fun a_19=>Mo.ok (some a_19)) fun r_20=>Mo.ok (.rt r_20))))
noncomputable def zax_ (p_row:(List Pas)):Mo (Option Qq1):=fnO (za0_ p_row)
noncomputable def zco_ (p_row:(List Pas)):Mo (Out (Option (Qq1×(List Int))) Unit Unit) :=
 (Mo.bind (Mo.bind (Mo.ok p_row) fun c_3=>Mo.noex (zax_ c_3)) fun signs_2=>(thenO (S:=Unit) (Mo.bind (Mo.bind (Mo.ok signs_2) fun a_4=>Mo.bind (Mo.ok ()) fun b_5=>Mo.ok a_4.isNone) fun c_6=>if c_6 then (Mo.bind (Mo.ok (none:(Option (Qq1×(List Int))))) fun r_8=>Mo.ok (.rt r_8)) else (Mo.ok (.nx ()))) fun _=>(Mo.bind (Mo.opt signs_2) fun signs_9=>(Mo.bind (Mo.ok ([]:List Int)) fun columns_10=>(thenO (S:=(List Int)) (Mo.bind (Mo.bind (Mo.ok p_row) fun c_12=>Mo.ok c_12.reverse) fun xs_29=>forO (fun (s_11:(List Int)) x_13=>(thenO (S:=(List Int)) (Mo.bind (Mo.bind (Mo.bind (Mo.bind (Mo.ok x_13) fun a_14=>Mo.ok (pTag a_14)) fun a_15=>Mo.bind (Mo.ok ([100,101,97,108]:List Nat)) fun b_16=>Mo.ok (decide (a_15=b_16))) fun c_24=>if c_24 then (Mo.bind (Mo.bind (Mo.bind (Mo.ok x_13) fun a_17=>Mo.ok a_17.1) fun a_18=>Mo.bind (Mo.ok signs_9) fun b_19=>Mo.ok (if true then !(getA b_19 a_18).isSome else (getA b_19 a_18).isSome)) fun c_23=>if c_23 then (Mo.bind (Mo.bind (Mo.ok x_13) fun a_20=>Mo.ok a_20.1) fun a_21=>Mo.bind (Mo.ok s_11) fun b_22=>Mo.ok (!(b_22.any fun y=>decide (y=a_21)))) else Mo.ok false) else Mo.ok false) fun c_25=>if c_25 then (Mo.bind (Mo.bind (Mo.ok x_13) fun a_27=>Mo.ok a_27.1) fun a_28=>Mo.lim (s_11.length+1) (Mo.ok (.nx (s_11++[a_28])))) else (Mo.ok (.nx s_11))) fun s_26=>(Mo.ok (.nx s_26)))) xs_29 columns_10) fun s_11=>(Mo.bind (Mo.bind (Mo.bind (Mo.ok signs_9) fun a_30=>Mo.bind (Mo.ok s_11) fun c_31=>Mo.ok (a_30,c_31)) fun a_32=>Mo.ok (some a_32)) fun r_33=>Mo.ok (.rt r_33)))))))
noncomputable def zbr_ (p_row:(List Pas)):Mo (Option (Qq1×(List Int))):=fnO (zco_ p_row)
noncomputable def zbU_ (p_signs:Qq1) (p_mark:(List Nat)):Mo (Out (List Nat) Unit Unit) :=
 (Mo.bind (Mo.bind (Mo.bind (Mo.bind (Mo.ok (1:Int)) fun a_4=>Mo.bind (Mo.bind (Mo.ok (36:Int)) fun a_2=>Mo.bind (Mo.ok (1:Int)) fun b_3=>Mo.ok (a_2+b_3)) fun c_5=>Mo.ok (a_4,c_5)) fun c_6=>Mo.grd (-(2 ^ 62)≤c_6.1∧c_6.1<2 ^ 62 ∧ -(2 ^ 62)≤c_6.2∧c_6.2<2 ^ 62) (Mo.ok (rngI c_6.1 (c_6.2-c_6.1).toNat))) fun xs_11=>compM (fun x_7=>cond1 (Mo.ok true) (Mo.bind (Mo.ok p_signs) fun m_8=>Mo.bind (Mo.ok x_7) fun k_9=>Mo.bind (Mo.ok ([32]:List Nat)) fun d_10=>Mo.ok ((getA m_8 k_9).getD d_10))) xs_11 []) fun body_1=>(Mo.bind (Mo.bind (Mo.bind (Mo.ok ([]:List Nat)) fun a_12=>Mo.bind (Mo.ok body_1) fun b_13=>Mo.grd (JoinOk ⟨a_12.toArray⟩ (strsL b_13)=true) (Mo.ok (joinS a_12 (strsL b_13)))) fun a_14=>Mo.bind (Mo.ok p_mark) fun b_15=>Mo.lim (a_14.length+b_15.length) (Mo.ok (a_14++b_15))) fun r_16=>Mo.ok (.rt r_16)))
noncomputable def zav_ (p_signs:Qq1) (p_mark:(List Nat)):Mo (List Nat):=fnO (zbU_ p_signs p_mark)
noncomputable def zaZ_ (p_signs:Qq1) (p_others:Qq1):Mo (Out (Option (List Nat)) Unit Unit) :=
 (thenO (S:=Unit) (Mo.bind (Mo.bind (Mo.ok p_signs) fun c_2=>Mo.grd (c_2.length<64) (Mo.ok (srtL ltI (c_2.map (·.1))))) fun xs_26=>forO (fun (_:Unit) x_3=>(Mo.bind (Mo.bind (Mo.bind (Mo.ok p_others) fun m_4=>Mo.bind (Mo.ok x_3) fun k_5=>Mo.ok (getA m_4 k_5)) fun a_8=>Mo.bind (Mo.bind (Mo.ok p_signs) fun a_6=>Mo.bind (Mo.ok x_3) fun b_7=>Mo.opt (getA a_6 b_7)) fun b_9=>Mo.ok (!decide (a_8=some b_9))) fun c_10=>if c_10 then (Mo.bind (Mo.bind (Mo.ok p_others) fun c_12=>Mo.ok c_12) fun seen_11=>(Mo.bind (Mo.ok x_3) fun k_13=>Mo.bind (Mo.bind (Mo.bind (Mo.bind (Mo.ok p_signs) fun a_16=>Mo.bind (Mo.ok x_3) fun b_17=>Mo.opt (getA a_16 b_17)) fun a_18=>Mo.bind (Mo.ok ([48]:List Nat)) fun b_19=>Mo.ok (decide (a_18=b_19))) fun c_20=>if c_20 then (Mo.ok ([49]:List Nat)) else (Mo.ok ([48]:List Nat))) fun d_14=>Mo.lim (seen_11.length+1) (Mo.bind (Mo.ok (sdA seen_11 k_13 d_14).2) fun m_15=>(Mo.bind (Mo.bind (Mo.bind (Mo.bind (Mo.ok m_15) fun a_21=>Mo.bind (Mo.ok ([48,48,48,49]:List Nat)) fun c_22=>Mo.ok (a_21,c_22)) fun c_23=>Mo.noex (zav_ c_23.1 c_23.2)) fun a_24=>Mo.ok (some a_24)) fun r_25=>Mo.ok (.rt r_25))))) else (Mo.ok (.nx ())))) xs_26 ()) fun _=>(Mo.bind (Mo.ok (none:(Option (List Nat)))) fun r_27=>Mo.ok (.rt r_27)))
noncomputable def zT_ (p_signs:Qq1) (p_others:Qq1):Mo (Option (List Nat)):=fnO (zaZ_ p_signs p_others)
noncomputable def zW_ (p_signs:Qq1) (p_others:Qq1):Mo (Out (Option (List (List Nat))) Unit Unit) :=
 (Mo.bind (Mo.bind (Mo.bind (Mo.ok p_signs) fun a_3=>Mo.bind (Mo.ok p_others) fun c_4=>Mo.ok (a_3,c_4)) fun c_5=>Mo.noex (zT_ c_5.1 c_5.2)) fun card_2=>(thenO (S:=(Option (List Nat))) (Mo.bind (Mo.bind (Mo.ok card_2) fun a_6=>Mo.bind (Mo.ok ()) fun b_7=>Mo.ok a_6.isNone) fun c_8=>if c_8 then (Mo.bind (Mo.bind (Mo.bind (Mo.ok p_others) fun a_12=>Mo.bind (Mo.ok p_signs) fun c_13=>Mo.ok (a_12,c_13)) fun c_14=>Mo.noex (zT_ c_14.1 c_14.2)) fun card_11=>(Mo.ok (.nx card_11))) else (Mo.ok (.nx card_2))) fun s_9=>(Mo.bind (Mo.bind (Mo.ok s_9) fun a_15=>Mo.bind (Mo.ok ()) fun b_16=>Mo.ok a_15.isNone) fun c_17=>if c_17 then (Mo.bind (Mo.ok (none:(Option (List (List Nat))))) fun r_18=>Mo.ok (.rt r_18)) else (Mo.bind (Mo.opt s_9) fun card_19=>(Mo.bind (Mo.bind (Mo.bind (Mo.ok card_19) fun c_20=>Mo.ok [c_20]) fun a_21=>Mo.ok (some a_21)) fun r_22=>Mo.ok (.rt r_22))))))
noncomputable def zx_ (p_signs:Qq1) (p_others:Qq1):Mo (Option (List (List Nat))):=fnO (zW_ p_signs p_others)
noncomputable def zbh_ (p_columns:(List Int)) (p_beginning:(List Int)):Mo (Out Bool Unit Unit) :=
 (Mo.bind (Mo.bind (Mo.bind (Mo.ok p_columns) fun a_3=>Mo.bind (Mo.ok none) fun b_4=>Mo.bind (Mo.bind (Mo.bind (Mo.ok p_beginning) fun c_1=>Mo.ok (c_1.length:Int)) fun i_2=>Mo.ok (some i_2)) fun d_5=>Mo.ok (cutG a_3 b_4 d_5)) fun a_6=>Mo.bind (Mo.ok p_beginning) fun b_7=>Mo.ok (((eqL (fun a b=>decide (a=b))) a_6 b_7))) fun r_8=>Mo.ok (.rt r_8))
noncomputable def zbc_ (p_columns:(List Int)) (p_beginning:(List Int)):Mo Bool:=fnO (zbh_ p_columns p_beginning)
noncomputable def zaM_ (p_one:(List Int)) (p_other:(List Int)):Mo (Out Int Unit Unit) :=
 (Mo.bind (Mo.ok (0:Int)) fun length_1=>(thenO (S:=Int) (whileO (fun (s_2:Int)=>(Mo.bind (Mo.bind (Mo.ok s_2) fun a_8=>Mo.bind (Mo.bind (Mo.bind (Mo.bind (Mo.ok p_one) fun c_3=>Mo.ok (c_3.length:Int)) fun a_5=>Mo.bind (Mo.bind (Mo.ok p_other) fun c_4=>Mo.ok (c_4.length:Int)) fun c_6=>Mo.ok (a_5,c_6)) fun c_7=>Mo.ok (min c_7.1 c_7.2)) fun b_9=>Mo.ok (decide (a_8<b_9))) fun c_16=>if c_16 then (Mo.bind (Mo.bind (Mo.ok p_one) fun a_10=>Mo.bind (Mo.ok s_2) fun b_11=>Mo.opt (atI a_10 b_11)) fun a_14=>Mo.bind (Mo.bind (Mo.ok p_other) fun a_12=>Mo.bind (Mo.ok s_2) fun b_13=>Mo.opt (atI a_12 b_13)) fun b_15=>Mo.ok (decide (a_14=b_15))) else Mo.ok false)) (fun (s_2:Int)=>(Mo.bind (Mo.bind (Mo.ok s_2) fun a_18=>Mo.bind (Mo.ok (1:Int)) fun b_19=>Mo.ok (a_18+b_19)) fun length_17=>(Mo.ok (.nx length_17)))) fuelW length_1) fun s_2=>(Mo.bind (Mo.ok s_2) fun r_20=>Mo.ok (.rt r_20))))
noncomputable def zaP_ (p_one:(List Int)) (p_other:(List Int)):Mo Int:=fnO (zaM_ p_one p_other)
noncomputable def zaX_ (p_signs:Qq1) (p_one:(List Int)) (p_other:(List Int)):Mo (Out (List (List Nat)) Unit Unit) :=
 (Mo.bind (Mo.bind (Mo.bind (Mo.ok p_one) fun a_2=>Mo.bind (Mo.ok p_other) fun c_3=>Mo.ok (a_2,c_3)) fun c_4=>Mo.noex (zaP_ c_4.1 c_4.2)) fun shared_1=>(Mo.bind (Mo.bind (Mo.ok p_signs) fun c_6=>Mo.ok c_6) fun low_5=>(Mo.bind (Mo.bind (Mo.ok p_signs) fun c_8=>Mo.ok c_8) fun high_7=>(thenO (S:=(Qq1×Qq1)) (Mo.bind (Mo.bind (Mo.bind (Mo.ok (1:Int)) fun a_12=>Mo.bind (Mo.bind (Mo.ok (36:Int)) fun a_10=>Mo.bind (Mo.ok (1:Int)) fun b_11=>Mo.ok (a_10+b_11)) fun c_13=>Mo.ok (a_12,c_13)) fun c_14=>Mo.grd (-(2 ^ 62)≤c_14.1∧c_14.1<2 ^ 62 ∧ -(2 ^ 62)≤c_14.2∧c_14.2<2 ^ 62) (Mo.ok (rngI c_14.1 (c_14.2-c_14.1).toNat))) fun xs_31=>forO (fun (s_9:(Qq1×Qq1)) x_15=>(thenO (S:=(Qq1×Qq1)) (Mo.bind (Mo.bind (Mo.bind (Mo.ok x_15) fun a_16=>Mo.bind (Mo.ok p_signs) fun b_17=>Mo.ok (if true then !(getA b_17 a_16).isSome else (getA b_17 a_16).isSome)) fun c_24=>if c_24 then (Mo.bind (Mo.ok x_15) fun a_22=>Mo.bind (Mo.bind (Mo.ok p_one) fun a_19=>Mo.bind (Mo.ok none) fun b_20=>Mo.bind (Mo.bind (Mo.ok shared_1) fun i_18=>Mo.ok (some i_18)) fun d_21=>Mo.ok (cutG a_19 b_20 d_21)) fun b_23=>Mo.ok (!(b_23.any fun y=>decide (y=a_22)))) else Mo.ok false) fun c_25=>if c_25 then (Mo.bind (Mo.ok ([48]:List Nat)) fun a_27=>Mo.bind (Mo.ok x_15) fun y_28=>Mo.lim (s_9.1.length+1) (Mo.bind (Mo.ok ([49]:List Nat)) fun a_29=>Mo.bind (Mo.ok x_15) fun y_30=>Mo.lim (s_9.2.length+1) (Mo.ok (.nx ((putA s_9.1 y_28 a_27),(putA s_9.2 y_30 a_29)))))) else (Mo.ok (.nx (s_9.1,s_9.2)))) fun s_26=>(Mo.ok (.nx (s_26.1,s_26.2))))) xs_31 (low_5,high_7)) fun s_9=>(thenO (S:=(Qq1×Qq1)) (Mo.bind (Mo.bind (Mo.ok shared_1) fun a_33=>Mo.bind (Mo.bind (Mo.ok p_other) fun c_32=>Mo.ok (c_32.length:Int)) fun b_34=>Mo.ok (decide (a_33<b_34))) fun c_35=>if c_35 then (Mo.bind (Mo.ok ([49]:List Nat)) fun a_39=>Mo.bind (Mo.bind (Mo.ok p_other) fun a_37=>Mo.bind (Mo.ok shared_1) fun b_38=>Mo.opt (atI a_37 b_38)) fun y_40=>Mo.lim (s_9.1.length+1) (Mo.bind (Mo.ok ([48]:List Nat)) fun a_43=>Mo.bind (Mo.bind (Mo.ok p_other) fun a_41=>Mo.bind (Mo.ok shared_1) fun b_42=>Mo.opt (atI a_41 b_42)) fun y_44=>Mo.lim (s_9.2.length+1) (Mo.ok (.nx ((putA s_9.1 y_40 a_39),(putA s_9.2 y_44 a_43)))))) else (Mo.ok (.nx (s_9.1,s_9.2)))) fun s_36=>(Mo.bind (Mo.bind (Mo.bind (Mo.bind (Mo.bind (Mo.ok s_36.2) fun a_45=>Mo.bind (Mo.ok ([48,48,48,49]:List Nat)) fun c_46=>Mo.ok (a_45,c_46)) fun c_47=>Mo.noex (zav_ c_47.1 c_47.2)) fun a_51=>Mo.bind (Mo.bind (Mo.bind (Mo.ok s_36.1) fun a_48=>Mo.bind (Mo.ok ([48,48,48,50]:List Nat)) fun c_49=>Mo.ok (a_48,c_49)) fun c_50=>Mo.noex (zav_ c_50.1 c_50.2)) fun c_52=>Mo.ok (a_51,c_52)) fun c_53=>Mo.ok [c_53.1,c_53.2]) fun r_54=>Mo.ok (.rt r_54)))))))
noncomputable def zak_ (p_signs:Qq1) (p_one:(List Int)) (p_other:(List Int)):Mo (List (List Nat)):=fnO (zaX_ p_signs p_one p_other)
noncomputable def zai_ (p_signs:Qq1) (p_one:(List Int)) (p_other:(List Int)):Mo (Out (Option (List (List Nat))) Unit Unit) :=
 (thenO (S:=Unit) (Mo.bind (Mo.bind (Mo.ok p_one) fun a_1=>Mo.bind (Mo.ok p_other) fun b_2=>Mo.ok (((eqL (fun a b=>decide (a=b))) a_1 b_2))) fun c_3=>if c_3 then (Mo.bind (Mo.ok (none:(Option (List (List Nat))))) fun r_5=>Mo.ok (.rt r_5)) else (Mo.ok (.nx ()))) fun _=>(thenO (S:=Unit) (Mo.bind (Mo.bind (Mo.bind (Mo.ok p_other) fun a_6=>Mo.bind (Mo.ok p_one) fun c_7=>Mo.ok (a_6,c_7)) fun c_8=>Mo.noex (zbc_ c_8.1 c_8.2)) fun c_9=>if c_9 then (Mo.bind (Mo.bind (Mo.bind (Mo.bind (Mo.ok p_signs) fun a_13=>Mo.bind (Mo.bind (Mo.ok p_other) fun a_11=>Mo.bind (Mo.ok p_one) fun c_12=>Mo.ok (a_11,c_12)) fun c_14=>Mo.ok (a_13,c_14)) fun c_15=>Mo.noex (zak_ c_15.1 c_15.2.1 c_15.2.2)) fun a_16=>Mo.ok (some a_16)) fun r_17=>Mo.ok (.rt r_17)) else (Mo.ok (.nx ()))) fun _=>(Mo.bind (Mo.bind (Mo.bind (Mo.bind (Mo.ok p_signs) fun a_20=>Mo.bind (Mo.bind (Mo.ok p_one) fun a_18=>Mo.bind (Mo.ok p_other) fun c_19=>Mo.ok (a_18,c_19)) fun c_21=>Mo.ok (a_20,c_21)) fun c_22=>Mo.noex (zak_ c_22.1 c_22.2.1 c_22.2.2)) fun a_23=>Mo.ok (some a_23)) fun r_24=>Mo.ok (.rt r_24))))
noncomputable def zN_ (p_signs:Qq1) (p_one:(List Int)) (p_other:(List Int)):Mo (Option (List (List Nat))):=fnO (zai_ p_signs p_one p_other)
noncomputable def z8_ (p_row:(List Pas)) (p_other:(List Pas)):Mo (Out (Option (List (List Nat))) Unit Unit) :=
 (Mo.bind (Mo.bind (Mo.ok p_row) fun c_3=>Mo.noex (zbr_ c_3)) fun sense_2=>(Mo.bind (Mo.bind (Mo.ok p_other) fun c_6=>Mo.noex (zbr_ c_6)) fun other_sense_5=>(thenO (S:=Unit) (Mo.bind (Mo.bind (Mo.ok sense_2) fun a_7=>Mo.bind (Mo.ok other_sense_5) fun b_8=>Mo.ok (eqSn a_7 b_8)) fun c_9=>if c_9 then (Mo.bind (Mo.ok (none:(Option (List (List Nat))))) fun r_11=>Mo.ok (.rt r_11)) else (Mo.ok (.nx ()))) fun _=>(thenO (S:=Unit) (Mo.bind (Mo.bind (Mo.ok sense_2) fun a_12=>Mo.bind (Mo.ok ()) fun b_13=>Mo.ok a_12.isNone) fun c_14=>if c_14 then (Mo.bind (Mo.bind (Mo.bind (Mo.bind (Mo.bind (Mo.bind (Mo.bind (Mo.ok other_sense_5) fun a_16=>Mo.opt a_16) fun a_17=>Mo.ok a_17.1) fun a_18=>Mo.bind (Mo.ok ([48,48,48,49]:List Nat)) fun c_19=>Mo.ok (a_18,c_19)) fun c_20=>Mo.noex (zav_ c_20.1 c_20.2)) fun c_21=>Mo.ok [c_21]) fun a_22=>Mo.ok (some a_22)) fun r_23=>Mo.ok (.rt r_23)) else (Mo.ok (.nx ()))) fun _=>(Mo.bind (Mo.opt sense_2) fun sense_24=>(thenO (S:=Unit) (Mo.bind (Mo.bind (Mo.ok other_sense_5) fun a_25=>Mo.bind (Mo.ok ()) fun b_26=>Mo.ok a_25.isNone) fun c_27=>if c_27 then (Mo.bind (Mo.bind (Mo.bind (Mo.bind (Mo.bind (Mo.bind (Mo.ok sense_24) fun a_29=>Mo.ok a_29.1) fun a_30=>Mo.bind (Mo.ok ([48,48,48,49]:List Nat)) fun c_31=>Mo.ok (a_30,c_31)) fun c_32=>Mo.noex (zav_ c_32.1 c_32.2)) fun c_33=>Mo.ok [c_33]) fun a_34=>Mo.ok (some a_34)) fun r_35=>Mo.ok (.rt r_35)) else (Mo.ok (.nx ()))) fun _=>(Mo.bind (Mo.opt other_sense_5) fun other_sense_36=>(Mo.bind (Mo.bind (Mo.bind (Mo.bind (Mo.ok sense_24) fun a_39=>Mo.ok a_39.1) fun a_41=>Mo.bind (Mo.bind (Mo.ok other_sense_36) fun a_40=>Mo.ok a_40.1) fun c_42=>Mo.ok (a_41,c_42)) fun c_43=>Mo.noex (zx_ c_43.1 c_43.2)) fun deck_38=>(thenO (S:=(Option (List (List Nat)))) (Mo.bind (Mo.bind (Mo.ok deck_38) fun a_44=>Mo.bind (Mo.ok ()) fun b_45=>Mo.ok a_44.isNone) fun c_46=>if c_46 then (Mo.bind (Mo.bind (Mo.bind (Mo.bind (Mo.ok sense_24) fun a_50=>Mo.ok a_50.1) fun a_55=>Mo.bind (Mo.bind (Mo.bind (Mo.ok sense_24) fun a_51=>Mo.ok a_51.2) fun a_53=>Mo.bind (Mo.bind (Mo.ok other_sense_36) fun a_52=>Mo.ok a_52.2) fun c_54=>Mo.ok (a_53,c_54)) fun c_56=>Mo.ok (a_55,c_56)) fun c_57=>Mo.noex (zN_ c_57.1 c_57.2.1 c_57.2.2)) fun deck_49=>(Mo.ok (.nx deck_49))) else (Mo.ok (.nx deck_38))) fun s_47=>(Mo.bind (Mo.ok s_47) fun r_58=>Mo.ok (.rt r_58)))))))))))
noncomputable def zp_ (p_row:(List Pas)) (p_other:(List Pas)):Mo (Option (List (List Nat))):=fnO (z8_ p_row p_other)
noncomputable def zbW_ (p_row:(List Pas)):Mo (Out (Option (Qq1×(List Int))) Unit Unit) :=
 (Mo.bind (Mo.ok ([]:Qq1)) fun picks_1=>(Mo.bind (Mo.ok ([]:List Int)) fun key_2=>(thenO (S:=(Qq1×(List Int))) (Mo.bind (Mo.bind (Mo.ok p_row) fun a_4=>Mo.ok a_4.reverse) fun xs_35=>forO (fun (s_3:(Qq1×(List Int))) x_5=>(thenO (S:=(Qq1×(List Int))) (Mo.bind (Mo.bind (Mo.bind (Mo.ok x_5) fun a_6=>Mo.ok (pTag a_6)) fun a_7=>Mo.bind (Mo.ok ([112,105,99,107]:List Nat)) fun b_8=>Mo.ok (decide (a_7=b_8))) fun c_9=>if c_9 then (thenO (S:=Unit) (Mo.bind (Mo.bind (Mo.bind (Mo.bind (Mo.ok x_5) fun a_11=>Mo.ok a_11.1) fun a_12=>Mo.bind (Mo.ok s_3.1) fun b_13=>Mo.ok (if false then !(getA b_13 a_12).isSome else (getA b_13 a_12).isSome)) fun c_20=>if c_20 then (Mo.bind (Mo.bind (Mo.ok s_3.1) fun a_15=>Mo.bind (Mo.bind (Mo.ok x_5) fun a_14=>Mo.ok a_14.1) fun b_16=>Mo.opt (getA a_15 b_16)) fun a_18=>Mo.bind (Mo.bind (Mo.ok x_5) fun a_17=>Mo.opt a_17.2) fun b_19=>Mo.ok (!decide (a_18=b_19))) else Mo.ok false) fun c_21=>if c_21 then (Mo.bind (Mo.ok (none:(Option (Qq1×(List Int))))) fun r_23=>Mo.ok (.rt r_23)) else (Mo.ok (.nx ()))) fun _=>(Mo.bind (Mo.bind (Mo.ok x_5) fun a_24=>Mo.opt a_24.2) fun a_26=>Mo.bind (Mo.bind (Mo.ok x_5) fun a_25=>Mo.ok a_25.1) fun y_27=>Mo.lim (s_3.1.length+1) (Mo.ok (.nx ((putA s_3.1 y_27 a_26),s_3.2))))) else (thenO (S:=(List Int)) (Mo.bind (Mo.bind (Mo.bind (Mo.ok x_5) fun a_28=>Mo.ok a_28.1) fun a_29=>Mo.bind (Mo.ok s_3.2) fun b_30=>Mo.ok (!(b_30.any fun y=>decide (y=a_29)))) fun c_31=>if c_31 then (Mo.bind (Mo.bind (Mo.ok x_5) fun a_33=>Mo.ok a_33.1) fun a_34=>Mo.lim (s_3.2.length+1) (Mo.ok (.nx (s_3.2++[a_34])))) else (Mo.ok (.nx s_3.2))) fun s_32=>(Mo.ok (.nx (s_3.1,s_32))))) fun s_10=>(Mo.ok (.nx (s_10.1,s_10.2))))) xs_35 (picks_1,key_2)) fun s_3=>(Mo.bind (Mo.bind (Mo.bind (Mo.ok s_3.1) fun a_40=>Mo.bind (Mo.bind (Mo.ok s_3.2) fun xs_39=>compM (fun x_36=>cond1 (Mo.bind (Mo.ok x_36) fun a_37=>Mo.bind (Mo.ok s_3.1) fun b_38=>Mo.ok (if true then !(getA b_38 a_37).isSome else (getA b_38 a_37).isSome)) (Mo.ok x_36)) xs_39 []) fun c_41=>Mo.ok (a_40,c_41)) fun a_42=>Mo.ok (some a_42)) fun r_43=>Mo.ok (.rt r_43)))))
noncomputable def zaw_ (p_row:(List Pas)):Mo (Option (Qq1×(List Int))):=fnO (zbW_ p_row)
noncomputable def zaO_ (p_found:(Option (List (List Nat)))):Mo (Out Bool Unit Unit) :=
 (thenO (S:=Unit) (Mo.bind (Mo.bind (Mo.bind (Mo.bind (Mo.ok p_found) fun a_1=>Mo.ok (a_1.isSome && true)) fun a_2=>Mo.ok (!a_2)) fun c_12=>if c_12 then Mo.ok true else (Mo.bind (Mo.bind (Mo.bind (Mo.bind (Mo.ok p_found) fun a_3=>Mo.opt a_3) fun c_4=>Mo.ok (c_4.length:Int)) fun a_5=>Mo.bind (Mo.ok (1:Int)) fun b_6=>Mo.ok (decide (a_5<b_6))) fun c_11=>if c_11 then Mo.ok true else (Mo.bind (Mo.bind (Mo.bind (Mo.ok p_found) fun a_7=>Mo.opt a_7) fun c_8=>Mo.ok (c_8.length:Int)) fun a_9=>Mo.bind (Mo.ok (2:Int)) fun b_10=>Mo.ok (decide (b_10<a_9))))) fun c_13=>if c_13 then (Mo.bind (Mo.ok false) fun r_15=>Mo.ok (.rt r_15)) else (Mo.ok (.nx ()))) fun _=>(thenO (S:=Unit) (Mo.bind (Mo.bind (Mo.ok p_found) fun a_17=>Mo.opt a_17) fun xs_36=>forO (fun (_:Unit) x_18=>(thenO (S:=Unit) (Mo.bind (Mo.bind (Mo.bind (Mo.bind (Mo.ok x_18) fun a_19=>Mo.ok true) fun a_20=>Mo.ok (!a_20)) fun c_24=>if c_24 then Mo.ok true else (Mo.bind (Mo.bind (Mo.ok x_18) fun c_21=>Mo.lim c_21.length (Mo.ok (c_21.length:Int))) fun a_22=>Mo.bind (Mo.ok (40:Int)) fun b_23=>Mo.ok (!decide (a_22=b_23)))) fun c_25=>if c_25 then (Mo.bind (Mo.ok false) fun r_27=>Mo.ok (.rt r_27)) else (Mo.ok (.nx ()))) fun _=>(thenO (S:=Unit) (Mo.bind (Mo.bind (Mo.ok x_18) fun a_29=>Mo.ok (a_29.map fun c=>[c])) fun xs_35=>forO (fun (_:Unit) x_30=>(Mo.bind (Mo.bind (Mo.ok x_30) fun a_31=>Mo.bind (Mo.ok (SG:List Nat)) fun b_32=>Mo.ok (!inS a_31 b_32)) fun c_33=>if c_33 then (Mo.bind (Mo.ok false) fun r_34=>Mo.ok (.rt r_34)) else (Mo.ok (.nx ())))) xs_35 ()) fun _=>(Mo.ok (.nx ()))))) xs_36 ()) fun _=>(Mo.bind (Mo.bind (Mo.bind (Mo.bind (Mo.bind (Mo.ok p_found) fun a_37=>Mo.opt a_37) fun c_38=>Mo.ok (c_38.length:Int)) fun a_39=>Mo.bind (Mo.ok (1:Int)) fun b_40=>Mo.ok (decide (a_39=b_40))) fun c_57=>if c_57 then Mo.ok true else (Mo.bind (Mo.bind (Mo.bind (Mo.bind (Mo.ok p_found) fun a_41=>Mo.opt a_41) fun a_42=>Mo.bind (Mo.ok (0:Int)) fun b_43=>Mo.opt (atI a_42 b_43)) fun a_45=>Mo.bind (Mo.bind (Mo.ok (36:Int)) fun i_44=>Mo.ok (some i_44)) fun b_46=>Mo.bind (Mo.ok none) fun d_47=>Mo.lim a_45.length (Mo.ok (cutG a_45 b_46 d_47))) fun a_55=>Mo.bind (Mo.bind (Mo.bind (Mo.bind (Mo.ok p_found) fun a_48=>Mo.opt a_48) fun a_49=>Mo.bind (Mo.ok (1:Int)) fun b_50=>Mo.opt (atI a_49 b_50)) fun a_52=>Mo.bind (Mo.bind (Mo.ok (36:Int)) fun i_51=>Mo.ok (some i_51)) fun b_53=>Mo.bind (Mo.ok none) fun d_54=>Mo.lim a_52.length (Mo.ok (cutG a_52 b_53 d_54))) fun b_56=>Mo.ok (!decide (a_55=b_56)))) fun r_58=>Mo.ok (.rt r_58))))
noncomputable def zaN_ (p_found:(Option (List (List Nat)))):Mo Bool:=fnO (zaO_ p_found)
noncomputable def zcr_ (p_deck:(List (List Nat))) (p_one:Pas):Mo (Out (List (List Nat)) Unit Unit) :=
 (Mo.bind (Mo.bind (Mo.bind (Mo.ok p_one) fun a_2=>Mo.ok a_2.1) fun a_3=>Mo.bind (Mo.ok (1:Int)) fun b_4=>Mo.ok (a_3-b_4)) fun at_1=>(thenO (S:=Unit) (Mo.bind (Mo.bind (Mo.bind (Mo.ok p_one) fun a_5=>Mo.ok (pTag a_5)) fun a_6=>Mo.bind (Mo.ok ([112,105,99,107]:List Nat)) fun b_7=>Mo.ok (decide (a_6=b_7))) fun c_8=>if c_8 then (Mo.bind (Mo.bind (Mo.ok p_deck) fun xs_16=>compM (fun x_10=>cond1 (Mo.bind (Mo.bind (Mo.ok x_10) fun a_11=>Mo.bind (Mo.ok at_1) fun b_12=>Mo.lim a_11.length (Mo.opt ((atI a_11 b_12).map fun c=>[c]))) fun a_14=>Mo.bind (Mo.bind (Mo.ok p_one) fun a_13=>Mo.opt a_13.2) fun b_15=>Mo.ok (decide (a_14=b_15))) (Mo.ok x_10)) xs_16 []) fun r_17=>Mo.ok (.rt r_17)) else (Mo.ok (.nx ()))) fun _=>(Mo.bind (Mo.ok ([]:List (List Nat))) fun found_18=>(thenO (S:=(List (List Nat))) (Mo.bind (Mo.ok p_deck) fun xs_42=>forO (fun (s_19:(List (List Nat))) x_20=>(Mo.bind (Mo.bind (Mo.ok s_19) fun c_22=>Mo.ok (c_22.length:Int)) fun here_21=>(thenO (S:=Int) (whileO (fun (s_23:Int)=>(Mo.bind (Mo.bind (Mo.ok s_23) fun a_24=>Mo.bind (Mo.ok (0:Int)) fun b_25=>Mo.ok (decide (b_25<a_24))) fun c_36=>if c_36 then (Mo.bind (Mo.bind (Mo.ok x_20) fun a_26=>Mo.bind (Mo.ok at_1) fun b_27=>Mo.lim a_26.length (Mo.opt ((atI a_26 b_27).map fun c=>[c]))) fun a_34=>Mo.bind (Mo.bind (Mo.bind (Mo.ok s_19) fun a_30=>Mo.bind (Mo.bind (Mo.ok s_23) fun a_28=>Mo.bind (Mo.ok (1:Int)) fun b_29=>Mo.ok (a_28-b_29)) fun b_31=>Mo.opt (atI a_30 b_31)) fun a_32=>Mo.bind (Mo.ok at_1) fun b_33=>Mo.lim a_32.length (Mo.opt ((atI a_32 b_33).map fun c=>[c]))) fun b_35=>Mo.ok (decide (a_34<b_35))) else Mo.ok false)) (fun (s_23:Int)=>(Mo.bind (Mo.bind (Mo.ok s_23) fun a_38=>Mo.bind (Mo.ok (1:Int)) fun b_39=>Mo.ok (a_38-b_39)) fun here_37=>(Mo.ok (.nx here_37)))) fuelW here_21) fun s_23=>(Mo.bind (Mo.ok s_23) fun j_40=>Mo.bind (Mo.ok x_20) fun a_41=>Mo.grd (0≤j_40∧j_40≤s_19.length) (Mo.lim (s_19.length+1) (Mo.ok (.nx (insL s_19 j_40 a_41)))))))) xs_42 found_18) fun s_19=>(Mo.ok (.rt s_19))))))
noncomputable def zcs_ (p_deck:(List (List Nat))) (p_one:Pas):Mo (List (List Nat)):=fnO (zcr_ p_deck p_one)
noncomputable def za1_ (p_deck:(List (List Nat))) (p_row:(List Pas)):Mo (Out (List (List Nat)) Unit Unit) :=
 (Mo.bind (Mo.bind (Mo.ok p_deck) fun c_2=>Mo.ok c_2) fun found_1=>(thenO (S:=(List (List Nat))) (Mo.bind (Mo.ok p_row) fun xs_9=>forO (fun (s_3:(List (List Nat))) x_4=>(Mo.bind (Mo.bind (Mo.bind (Mo.ok s_3) fun a_6=>Mo.bind (Mo.ok x_4) fun c_7=>Mo.ok (a_6,c_7)) fun c_8=>Mo.noex (zcs_ c_8.1 c_8.2)) fun found_5=>(Mo.ok (.nx found_5)))) xs_9 found_1) fun s_3=>(Mo.ok (.rt s_3))))
noncomputable def zaA_ (p_deck:(List (List Nat))) (p_row:(List Pas)):Mo (List (List Nat)):=fnO (za1_ p_deck p_row)
noncomputable def za6_ (p_found:(Option (List (List Nat)))) (p_row:(List Pas)) (p_other:(List Pas)):Mo (Out Bool Unit Unit) :=
 (thenO (S:=Unit) (Mo.bind (Mo.bind (Mo.bind (Mo.ok p_row) fun c_1=>Mo.noex (zaw_ c_1)) fun a_3=>Mo.bind (Mo.bind (Mo.ok p_other) fun c_2=>Mo.noex (zaw_ c_2)) fun b_4=>Mo.ok (eqSn a_3 b_4)) fun c_5=>if c_5 then (Mo.bind (Mo.bind (Mo.ok p_found) fun a_7=>Mo.bind (Mo.ok ()) fun b_8=>Mo.ok a_7.isNone) fun r_9=>Mo.ok (.rt r_9)) else (Mo.ok (.nx ()))) fun _=>(thenO (S:=Unit) (Mo.bind (Mo.bind (Mo.bind (Mo.ok p_found) fun c_10=>Mo.noex (zaN_ c_10)) fun a_11=>Mo.ok (!a_11)) fun c_12=>if c_12 then (Mo.bind (Mo.ok false) fun r_14=>Mo.ok (.rt r_14)) else (Mo.ok (.nx ()))) fun _=>(Mo.bind (Mo.bind (Mo.bind (Mo.bind (Mo.bind (Mo.ok p_found) fun a_15=>Mo.opt a_15) fun a_16=>Mo.bind (Mo.ok p_row) fun c_17=>Mo.ok (a_16,c_17)) fun c_18=>Mo.noex (zaA_ c_18.1 c_18.2)) fun a_23=>Mo.bind (Mo.bind (Mo.bind (Mo.bind (Mo.ok p_found) fun a_19=>Mo.opt a_19) fun a_20=>Mo.bind (Mo.ok p_other) fun c_21=>Mo.ok (a_20,c_21)) fun c_22=>Mo.noex (zaA_ c_22.1 c_22.2)) fun b_24=>Mo.ok (!((eqL (fun a b=>decide (a=b))) a_23 b_24))) fun r_25=>Mo.ok (.rt r_25))))
noncomputable def zat_ (p_found:(Option (List (List Nat)))) (p_row:(List Pas)) (p_other:(List Pas)):Mo Bool:=fnO (za6_ p_found p_row p_other)
noncomputable def zlB_ (p_script:(List Int)):Mo (Out Bool Unit Unit) :=
 (Mo.bind (Mo.ok (SG:List Nat)) fun signs_1=>(Mo.bind (Mo.bind (Mo.bind (Mo.ok p_script) fun a_3=>Mo.bind (Mo.ok (0:Int)) fun c_4=>Mo.ok (a_3,c_4)) fun c_5=>Mo.noex (z6_ c_5.1 c_5.2)) fun ways_2=>(Mo.bind (Mo.bind (Mo.bind (Mo.bind (Mo.ok p_script) fun a_7=>Mo.bind (Mo.ok (1:Int)) fun c_8=>Mo.ok (a_7,c_8)) fun c_9=>Mo.noex (z6_ c_9.1 c_9.2)) fun a_10=>Mo.bind (Mo.ok (36:Int)) fun b_11=>Mo.grd (0<b_11) (Mo.ok (a_10 % b_11))) fun start_6=>(Mo.bind (Mo.bind (Mo.bind (Mo.ok signs_1) fun a_14=>Mo.bind (Mo.bind (Mo.ok start_6) fun i_13=>Mo.ok (some i_13)) fun b_15=>Mo.bind (Mo.ok none) fun d_16=>Mo.lim a_14.length (Mo.ok (cutG a_14 b_15 d_16))) fun a_21=>Mo.bind (Mo.bind (Mo.ok signs_1) fun a_18=>Mo.bind (Mo.ok none) fun b_19=>Mo.bind (Mo.bind (Mo.ok start_6) fun i_17=>Mo.ok (some i_17)) fun d_20=>Mo.lim a_18.length (Mo.ok (cutG a_18 b_19 d_20))) fun b_22=>Mo.lim (a_21.length+b_22.length) (Mo.ok (a_21++b_22))) fun hero_12=>(Mo.bind (Mo.bind (Mo.bind (Mo.bind (Mo.ok (2:Int)) fun a_28=>Mo.bind (Mo.bind (Mo.ok (1:Int)) fun a_26=>Mo.bind (Mo.bind (Mo.ok (4:Int)) fun a_24=>Mo.bind (Mo.ok (36:Int)) fun c_25=>Mo.ok (a_24,c_25)) fun c_27=>Mo.ok (a_26,c_27)) fun c_29=>Mo.ok (a_28,c_29)) fun c_30=>Mo.ok [c_30.1,c_30.2.1,c_30.2.2.1,c_30.2.2.2]) fun a_33=>Mo.bind (Mo.bind (Mo.ok ways_2) fun a_31=>Mo.bind (Mo.ok (4:Int)) fun b_32=>Mo.grd (0<b_32) (Mo.ok (a_31 % b_32))) fun b_34=>Mo.opt (atI a_33 b_34)) fun reach_23=>(Mo.bind (Mo.ok ([]:List Pas)) fun row_35=>(thenO (S:=(List Pas)) (Mo.bind (Mo.bind (Mo.ok p_script) fun a_39=>Mo.bind (Mo.bind (Mo.ok (4:Int)) fun i_37=>Mo.ok (some i_37)) fun b_40=>Mo.bind (Mo.bind (Mo.ok (44:Int)) fun i_38=>Mo.ok (some i_38)) fun d_41=>Mo.ok (cutG a_39 b_40 d_41)) fun xs_64=>forO (fun (s_36:(List Pas)) x_42=>(Mo.bind (Mo.bind (Mo.bind (Mo.ok x_42) fun a_60=>Mo.bind (Mo.bind (Mo.ok hero_12) fun a_58=>Mo.bind (Mo.bind (Mo.ok start_6) fun a_56=>Mo.bind (Mo.bind (Mo.ok reach_23) fun a_54=>Mo.bind (Mo.bind (Mo.bind (Mo.bind (Mo.ok (2:Int)) fun a_45=>Mo.bind (Mo.bind (Mo.ok (0:Int)) fun a_43=>Mo.bind (Mo.ok (4:Int)) fun c_44=>Mo.ok (a_43,c_44)) fun c_46=>Mo.ok (a_45,c_46)) fun c_47=>Mo.ok [c_47.1,c_47.2.1,c_47.2.2]) fun a_52=>Mo.bind (Mo.bind (Mo.bind (Mo.ok ways_2) fun a_48=>Mo.bind (Mo.ok (4:Int)) fun b_49=>Mo.grd (CDivG a_48 b_49) (Mo.ok (a_48 / b_49))) fun a_50=>Mo.bind (Mo.ok (3:Int)) fun b_51=>Mo.grd (0<b_51) (Mo.ok (a_50 % b_51))) fun b_53=>Mo.opt (atI a_52 b_53)) fun c_55=>Mo.ok (a_54,c_55)) fun c_57=>Mo.ok (a_56,c_57)) fun c_59=>Mo.ok (a_58,c_59)) fun c_61=>Mo.ok (a_60,c_61)) fun c_62=>Mo.noex (zbJ_ c_62.1 c_62.2.1 c_62.2.2.1 c_62.2.2.2.1 c_62.2.2.2.2)) fun a_63=>Mo.lim (s_36.length+1) (Mo.ok (.nx (s_36++[a_63]))))) xs_64 row_35) fun s_36=>(Mo.bind (Mo.bind (Mo.bind (Mo.bind (Mo.bind (Mo.bind (Mo.ok p_script) fun a_66=>Mo.bind (Mo.ok (3:Int)) fun c_67=>Mo.ok (a_66,c_67)) fun c_68=>Mo.noex (z6_ c_68.1 c_68.2)) fun a_69=>Mo.bind (Mo.ok (11:Int)) fun b_70=>Mo.grd (CDivG a_69 b_70) (Mo.ok (a_69 / b_70))) fun a_79=>Mo.bind (Mo.bind (Mo.ok hero_12) fun a_77=>Mo.bind (Mo.bind (Mo.ok start_6) fun a_75=>Mo.bind (Mo.bind (Mo.bind (Mo.ok reach_23) fun a_71=>Mo.bind (Mo.ok (1:Int)) fun b_72=>Mo.ok (a_71+b_72)) fun a_73=>Mo.bind (Mo.ok (4:Int)) fun c_74=>Mo.ok (a_73,c_74)) fun c_76=>Mo.ok (a_75,c_76)) fun c_78=>Mo.ok (a_77,c_78)) fun c_80=>Mo.ok (a_79,c_80)) fun c_81=>Mo.noex (zbJ_ c_81.1 c_81.2.1 c_81.2.2.1 c_81.2.2.2.1 c_81.2.2.2.2)) fun one_65=>(Mo.bind (Mo.bind (Mo.bind (Mo.ok s_36) fun a_95=>Mo.bind (Mo.bind (Mo.bind (Mo.bind (Mo.bind (Mo.ok p_script) fun a_83=>Mo.bind (Mo.ok (3:Int)) fun c_84=>Mo.ok (a_83,c_84)) fun c_85=>Mo.noex (z6_ c_85.1 c_85.2)) fun a_86=>Mo.bind (Mo.ok (11:Int)) fun b_87=>Mo.grd (0<b_87) (Mo.ok (a_86 % b_87))) fun a_93=>Mo.bind (Mo.bind (Mo.bind (Mo.bind (Mo.ok p_script) fun a_88=>Mo.bind (Mo.ok (2:Int)) fun c_89=>Mo.ok (a_88,c_89)) fun c_90=>Mo.noex (z6_ c_90.1 c_90.2)) fun a_91=>Mo.bind (Mo.ok one_65) fun c_92=>Mo.ok (a_91,c_92)) fun c_94=>Mo.ok (a_93,c_94)) fun c_96=>Mo.ok (a_95,c_96)) fun c_97=>Mo.noex (zbb_ c_97.1 c_97.2.1 c_97.2.2.1 c_97.2.2.2)) fun other_82=>(Mo.bind (Mo.bind (Mo.bind (Mo.ok s_36) fun c_103=>Mo.ok c_103) fun a_105=>Mo.bind (Mo.bind (Mo.ok other_82) fun c_104=>Mo.ok c_104) fun c_106=>Mo.ok (a_105,c_106)) fun handed_98=>(Mo.bind (Mo.bind (Mo.bind (Mo.bind (Mo.ok handed_98) fun a_109=>Mo.ok a_109.1) fun a_111=>Mo.bind (Mo.bind (Mo.ok handed_98) fun a_110=>Mo.ok a_110.2) fun c_112=>Mo.ok (a_111,c_112)) fun c_113=>Mo.noex (zp_ c_113.1 c_113.2)) fun found_108=>(thenO (S:=Unit) (Mo.bind (Mo.bind (Mo.bind (Mo.bind (Mo.bind (Mo.ok found_108) fun a_116=>Mo.bind (Mo.bind (Mo.ok s_36) fun a_114=>Mo.bind (Mo.ok other_82) fun c_115=>Mo.ok (a_114,c_115)) fun c_117=>Mo.ok (a_116,c_117)) fun c_118=>Mo.noex (zat_ c_118.1 c_118.2.1 c_118.2.2)) fun a_119=>Mo.ok (!a_119)) fun c_124=>if c_124 then Mo.ok true else (Mo.bind (Mo.ok handed_98) fun a_122=>Mo.bind (Mo.bind (Mo.ok s_36) fun a_120=>Mo.bind (Mo.ok other_82) fun c_121=>Mo.ok (a_120,c_121)) fun b_123=>Mo.ok (!((fun a b=>(eqL (fun a b=>decide (a=b))) a.1 b.1 && (eqL (fun a b=>decide (a=b))) a.2 b.2) a_122 b_123)))) fun c_125=>if c_125 then (Mo.bind (Mo.ok false) fun r_127=>Mo.ok (.rt r_127)) else (Mo.ok (.nx ()))) fun _=>(thenO (S:=Unit) (Mo.bind (Mo.bind (Mo.bind (Mo.bind (Mo.bind (Mo.bind (Mo.ok other_82) fun a_128=>Mo.bind (Mo.ok s_36) fun c_129=>Mo.ok (a_128,c_129)) fun c_130=>Mo.noex (zp_ c_130.1 c_130.2)) fun a_133=>Mo.bind (Mo.bind (Mo.ok other_82) fun a_131=>Mo.bind (Mo.ok s_36) fun c_132=>Mo.ok (a_131,c_132)) fun c_134=>Mo.ok (a_133,c_134)) fun c_135=>Mo.noex (zat_ c_135.1 c_135.2.1 c_135.2.2)) fun a_136=>Mo.ok (!a_136)) fun c_137=>if c_137 then (Mo.bind (Mo.ok false) fun r_139=>Mo.ok (.rt r_139)) else (Mo.ok (.nx ()))) fun _=>(Mo.bind (Mo.bind (Mo.bind (Mo.bind (Mo.bind (Mo.ok s_36) fun a_141=>Mo.bind (Mo.bind (Mo.ok s_36) fun c_140=>Mo.ok c_140) fun c_142=>Mo.ok (a_141,c_142)) fun c_143=>Mo.noex (zp_ c_143.1 c_143.2)) fun a_144=>Mo.bind (Mo.ok ()) fun b_145=>Mo.ok a_144.isNone) fun c_151=>if c_151 then (Mo.bind (Mo.bind (Mo.ok found_108) fun a_148=>Mo.bind (Mo.bind (Mo.ok s_36) fun a_146=>Mo.bind (Mo.ok other_82) fun c_147=>Mo.ok (a_146,c_147)) fun c_149=>Mo.ok (a_148,c_149)) fun c_150=>Mo.noex (zat_ c_150.1 c_150.2.1 c_150.2.2)) else Mo.ok false) fun r_152=>Mo.ok (.rt r_152)))))))))))))))
noncomputable def zlE_ (p_script:(List Int)):Mo Bool:=fnO (zlB_ p_script)
end K17
namespace K17
open PySem PySem.Spec PyProof.Rows L2
noncomputable def top (i:Nat):Stmt:=PySem.Challenge.pw_cardshop_k17_rows_nearly_alike.main.body.getD i (.Pass ⟨0,0,0,0⟩)
noncomputable abbrev z1_:Stmt:=top 18
noncomputable abbrev zaF_:Stmt:=top 19
noncomputable abbrev zZ_:Stmt:=top 23
noncomputable abbrev zU_:Stmt:=top 2
noncomputable abbrev zaH_:Stmt:=top 3
noncomputable abbrev zan_:Stmt:=top 9
noncomputable abbrev zQ_:Stmt:=top 14
noncomputable abbrev zw_:Stmt:=top 15
noncomputable abbrev z0_:Stmt:=top 10
noncomputable abbrev zH_:Stmt:=top 11
noncomputable abbrev zO_:Stmt:=top 12
noncomputable abbrev zq_:Stmt:=top 13
noncomputable abbrev z7_:Stmt:=top 16
noncomputable abbrev zam_:Stmt:=top 20
noncomputable abbrev zI_:Stmt:=top 24
noncomputable abbrev zaE_:Stmt:=top 21
noncomputable abbrev zS_:Stmt:=top 22
noncomputable abbrev z9_:Stmt:=top 25
noncomputable abbrev zgs_:Stmt:=top 26
noncomputable def zv_ (K:Fgg):Sp:=Ct K (csCons (tySc K) (csLast tyInt)) (fun c=>z6_ c.1 c.2) (owF tyInt)
noncomputable def zag_ (K:Fgg):Sp:=Ct K (csCons tyInt (csCons tyStr (csCons tyInt (csCons tyInt (csLast tyInt))))) (fun c=>zbJ_ c.1 c.2.1 c.2.2.1 c.2.2.2.1 c.2.2.2.2) (owF tyPass)
noncomputable def zV_ (K:Fgg):Sp:=Ct K (csCons (tyL tyPass) (csCons tyInt (csCons tyInt (csLast tyPass)))) (fun c=>zbb_ c.1 c.2.1 c.2.2.1 c.2.2.2) (owL tyPass)
noncomputable def zK_ (K:Fgg):Sp:=Ct K (csLast (tyL tyPass)) (fun c=>zax_ c) (owF (tyOpt (tyD kInt tyStr)))
noncomputable def zah_ (K:Fgg):Sp:=Ct K (csLast (tyL tyPass)) (fun c=>zbr_ c) (owF (tyOpt Qq0))
noncomputable def zt_ (K:Fgg):Sp:=Ct K (csCons (tyD kInt tyStr) (csLast tyStr)) (fun c=>zav_ c.1 c.2) (owF tyStr)
noncomputable def zy_ (K:Fgg):Sp:=Ct K (csCons (tyD kInt tyStr) (csLast (tyD kInt tyStr))) (fun c=>zT_ c.1 c.2) (owF (tyOpt tyStr))
noncomputable def zr_ (K:Fgg):Sp:=Ct K (csCons (tyD kInt tyStr) (csLast (tyD kInt tyStr))) (fun c=>zx_ c.1 c.2) (owF (tyOpt (tyL tyStr)))
noncomputable def zP_ (K:Fgg):Sp:=Ct K (csCons (tyL tyInt) (csLast (tyL tyInt))) (fun c=>zbc_ c.1 c.2) (owF tyBl)
noncomputable def zB_ (K:Fgg):Sp:=Ct K (csCons (tyL tyInt) (csLast (tyL tyInt))) (fun c=>zaP_ c.1 c.2) (owF tyInt)
noncomputable def zz_ (K:Fgg):Sp:=Ct K (csCons (tyD kInt tyStr) (csCons (tyL tyInt) (csLast (tyL tyInt)))) (fun c=>zak_ c.1 c.2.1 c.2.2) (owL tyStr)
noncomputable def zm_ (K:Fgg):Sp:=Ct K (csCons (tyD kInt tyStr) (csCons (tyL tyInt) (csLast (tyL tyInt)))) (fun c=>zN_ c.1 c.2.1 c.2.2) (owF (tyOpt (tyL tyStr)))
noncomputable def zL_ (K:Fgg):Sp:=Ct K (csCons (tyL tyPass) (csLast (tyL tyPass))) (fun c=>zp_ c.1 c.2) (owF (tyOpt (tyL tyStr)))
noncomputable def z2_ (K:Fgg):Sp:=Ct K (csLast (tyL tyPass)) (fun c=>zaw_ c) (owF (tyOpt Qq0))
noncomputable def zC_ (K:Fgg):Sp:=Ct K (csLast (tyOpt (tyL tyStr))) (fun c=>zaN_ c) (owF tyBl)
noncomputable def zal_ (K:Fgg):Sp:=Ct K (csCons (tyL tyStr) (csLast tyPass)) (fun c=>zcs_ c.1 c.2) (owL tyStr)
noncomputable def zA_ (K:Fgg):Sp:=Ct K (csCons (tyL tyStr) (csLast (tyL tyPass))) (fun c=>zaA_ c.1 c.2) (owL tyStr)
noncomputable def zM_ (K:Fgg):Sp:=Ct K (csCons (tyOpt (tyL tyStr)) (csCons (tyL tyPass) (csLast (tyL tyPass)))) (fun c=>zat_ c.1 c.2.1 c.2.2) (owF tyBl)
noncomputable def zeE_ (K:Fgg):Sp:=fun vs H Q _=>∃ (a:Addr) (ns:List Int),vs=[.ref a]∧SqL K H a (ns.map V.int)∧ns.length≤63∧BitsOk ns∧∀ H',Q (.bl true) H'
noncomputable def zaQ_ (K:Fgg):TS:=(tSeq (mIfS (mTest (tOp (mLtK K) (mVar 1) (tCB (mLen K) (tCons (mVar 0) tNil)))) (tRet (tOp (mIx K) (mVar 0) (mVar 1))) tNext) (tRet (tC (.int 0))))
noncomputable abbrev RD_law_cell_at (K:Fgg):Prop:=∀ vs H Q E,zv_ K vs H Q E→zaQ_ K { nx:=fun _ H'=>Q .non H',rt:=Q } (start Qn9 vs) H
theorem zdp_ {K:Fgg}:∀ vs H Q E,zv_ K vs H Q E→vs.length=2:=by
 rintro vs H Q E ⟨F,c,_,hc,_⟩; exact ((zg_ zf_):CsN (csCons (tySc K) (csLast tyInt)) 2) hc
noncomputable def zbQ_ (K:Fgg):TS:=(tSeq (tAsg (tC (tx SG)) (gName 5)) (tSeq (tAsg (tOp mAdd (tOp mMod (mVar 0) (tC (.int 2147483647))) (tC (.int 69621))) (gName 6)) (tSeq (tAsg (tOp mMod (tOp mMulX (mVar 6) (mVar 6)) (tC (.int 2147483629))) (gName 6)) (tSeq (tAsg (tOp mAdd (tC (.int 1)) (tOp mMod (tOp mAdd (mVar 2) (tOp mMod (tOp mDivG (mVar 6) (tC (.int 8))) (mVar 3))) (tC (.int 36)))) (gName 7)) (tSeq (mIfS (mTest (tOp mGe (tOp mMod (mVar 6) (tC (.int 8))) (mVar 4))) (tRet (tTup (tCons (tC (tx [100,101,97,108])) (tCons (mVar 7) tNil)))) tNext) (tSeq (mIfS (mTest (tOp (mEqK K) (tOp mMod (tOp mDivG (mVar 6) (tC (.int 512))) (tC (.int 7))) (tC (.int 1)))) (tRet (tTup (tCons (tC (tx [112,105,99,107])) (tCons (mVar 7) (tCons (tOp (mIx K) (mVar 5) (tOp mMod (tOp mDivG (mVar 6) (tC (.int 4096))) (tC (.int 37)))) tNil))))) tNext) (tRet (tTup (tCons (tC (tx [112,105,99,107])) (tCons (mVar 7) (tCons (tOp (mIx K) (mVar 1) (tOp mSub (mVar 7) (tC (.int 1)))) tNil)))))))))))
noncomputable abbrev RD_law_pass (K:Fgg):Prop:=∀ vs H Q E,zag_ K vs H Q E→zbQ_ K { nx:=fun _ H'=>Q .non H',rt:=Q } (start Qn1 vs) H
theorem zfm_ {K:Fgg}:∀ vs H Q E,zag_ K vs H Q E→vs.length=5:=by
 rintro vs H Q E ⟨F,c,_,hc,_⟩; exact ((zg_ (zg_ (zg_ (zg_ zf_)))):CsN (csCons tyInt (csCons tyStr (csCons tyInt (csCons tyInt (csLast tyInt))))) 5) hc
noncomputable def zaS_ (K:Fgg):TS:=(tSeq (mIfS (mTest (tOp (mEqK K) (mVar 0) (tLst tNil))) (tRet (tLst (tCons (mVar 3) tNil))) tNext) (tSeq (tAsg (tOp mMod (mVar 2) (tCB (mLen K) (tCons (mVar 0) tNil))) (gName 2)) (tSeq (tAsg (tOp (mIx K) (mVar 0) (mVar 2)) (gName 4)) (tSeq (mIfS (mTest (tOp (mEqK K) (mVar 1) (tC (.int 1)))) (tRet (tOp mAdd (tSl (mSl K) (mVar 0) tNoPart (mPart (mVar 2))) (tSl (mSl K) (mVar 0) (mPart (tOp mAdd (mVar 2) (tC (.int 1)))) tNoPart))) tNext) (tSeq (mIfS (mTest (tOp (mEqK K) (mVar 1) (tC (.int 2)))) (tRet (tOp mAdd (tOp mAdd (tSl (mSl K) (mVar 0) tNoPart (mPart (mVar 2))) (tLst (tCons (mVar 4) tNil))) (tSl (mSl K) (mVar 0) (mPart (mVar 2)) tNoPart))) tNext) (tSeq (mIfS (mTest (tOp (mEqK K) (mVar 1) (tC (.int 3)))) (tRet (tOp mAdd (tOp mAdd (tOp mAdd (tSl (mSl K) (mVar 0) tNoPart (mPart (mVar 2))) (tSl (mSl K) (mVar 0) (mPart (tOp mAdd (mVar 2) (tC (.int 1)))) (mPart (tOp mAdd (mVar 2) (tC (.int 2)))))) (tLst (tCons (mVar 4) tNil))) (tSl (mSl K) (mVar 0) (mPart (tOp mAdd (mVar 2) (tC (.int 2)))) tNoPart))) tNext) (tSeq (mIfS (mTest (tOp (mEqK K) (mVar 1) (tC (.int 4)))) (tRet (tOp mAdd (tOp mAdd (tSl (mSl K) (mVar 0) tNoPart (mPart (mVar 2))) (tSl (mSl K) (mVar 0) (mPart (tOp mAdd (mVar 2) (tC (.int 1)))) tNoPart)) (tLst (tCons (mVar 4) tNil)))) tNext) (tSeq (mIfS (mTest (tOp (mEqK K) (mVar 1) (tC (.int 5)))) (tRet (tOp mAdd (tOp mAdd (tLst (tCons (mVar 4) tNil)) (tSl (mSl K) (mVar 0) tNoPart (mPart (mVar 2)))) (tSl (mSl K) (mVar 0) (mPart (tOp mAdd (mVar 2) (tC (.int 1)))) tNoPart))) tNext) (tSeq (mIfS (mTest (tOp (mEqK K) (mVar 1) (tC (.int 6)))) (tRet (tOp mAdd (tOp mAdd (tSl (mSl K) (mVar 0) tNoPart (mPart (mVar 2))) (tLst (tCons (tOp (rCatT K) (tTup (tCons (tOp (mIx K) (mVar 4) (tC (.int 0))) (tCons (tOp (mIx K) (mVar 3) (tC (.int 1))) tNil))) (tSl (rSlT K) (mVar 4) (mPart (tC (.int 2))) tNoPart)) tNil))) (tSl (mSl K) (mVar 0) (mPart (tOp mAdd (mVar 2) (tC (.int 1)))) tNoPart))) tNext) (tSeq (mIfS (mAnd (mTest (tOp (mEqK K) (mVar 1) (tC (.int 7)))) (mAnd (mTest (tOp (mEqK K) (tCB (mLen K) (tCons (mVar 4) tNil)) (tC (.int 3)))) (mTest (tOp (mEqK K) (tCB (mLen K) (tCons (mVar 3) tNil)) (tC (.int 3)))))) (tRet (tOp mAdd (tOp mAdd (tSl (mSl K) (mVar 0) tNoPart (mPart (mVar 2))) (tLst (tCons (tTup (tCons (tC (tx [112,105,99,107])) (tCons (tOp (mIx K) (mVar 4) (tC (.int 1))) (tCons (tOp (mIx K) (mVar 3) (tC (.int 2))) tNil)))) tNil))) (tSl (mSl K) (mVar 0) (mPart (tOp mAdd (mVar 2) (tC (.int 1)))) tNoPart))) tNext) (tSeq (mIfS (mTest (tOp (mEqK K) (mVar 1) (tC (.int 8)))) (tRet (tOp mAdd (tOp mAdd (tSl (mSl K) (mVar 0) tNoPart (mPart (mVar 2))) (tLst (tCons (mVar 3) tNil))) (tSl (mSl K) (mVar 0) (mPart (mVar 2)) tNoPart))) tNext) (tSeq (mIfS (mAnd (mTest (tOp (mEqK K) (mVar 1) (tC (.int 9)))) (mTest (tOp (mEqK K) (tCB (mLen K) (tCons (mVar 3) tNil)) (tC (.int 3))))) (tRet (tOp mAdd (tOp mAdd (tSl (mSl K) (mVar 0) tNoPart (mPart (mVar 2))) (tLst (tCons (tTup (tCons (tC (tx [112,105,99,107])) (tCons (tOp (mIx K) (mVar 4) (tC (.int 1))) (tCons (tOp (mIx K) (mVar 3) (tC (.int 2))) tNil)))) tNil))) (tSl (mSl K) (mVar 0) (mPart (tOp mAdd (mVar 2) (tC (.int 1)))) tNoPart))) tNext) (tRet (tCB (mList K) (tCons (mVar 0) tNil)))))))))))))))
noncomputable abbrev RD_law_changed (K:Fgg):Prop:=∀ vs H Q E,zV_ K vs H Q E→zaS_ K { nx:=fun _ H'=>Q .non H',rt:=Q } (start Qn7 vs) H
theorem zdF_ {K:Fgg}:∀ vs H Q E,zV_ K vs H Q E→vs.length=4:=by
 rintro vs H Q E ⟨F,c,_,hc,_⟩; exact ((zg_ (zg_ (zg_ zf_))):CsN (csCons (tyL tyPass) (csCons tyInt (csCons tyInt (csLast tyPass)))) 4) hc
noncomputable def zaC_ (K:Fgg):TS:=(tSeq (tAsg tDNewK (gName 1)) (tSeq (tFor (iAny K (mVar 0)) (gName 2) (mIfS (mTest (tOp (mEqK K) (tOp (mIx K) (mVar 2) (tC (.int 0))) (tC (tx [112,105,99,107])))) (mIfS (mTest (tOp (mNeK K) (mSetD (mVar 1) (tOp (mIx K) (mVar 2) (tC (.int 1))) (tOp (mIx K) (mVar 2) (tC (.int 2)))) (tOp (mIx K) (mVar 2) (tC (.int 2))))) (tRet (tC .non)) tNext) tNext)) (tRet (mVar 1))))
noncomputable abbrev RD_picked_signs (K:Fgg):Prop:=∀ vs H Q E,zK_ K vs H Q E→zaC_ K { nx:=fun _ H'=>Q .non H',rt:=Q } (start ["row", "signs", "step"] vs) H
theorem zdj_ {K:Fgg}:∀ vs H Q E,zK_ K vs H Q E→vs.length=1:=by
 rintro vs H Q E ⟨F,c,_,hc,_⟩; exact (zf_:CsN (csLast (tyL tyPass)) 1) hc
noncomputable def zbP_ (K:Fgg):TS:=(tSeq (tAsg (tCall (zK_ K) [] E0 (tCons (mVar 0) tNil)) (gName 1)) (tSeq (mIfS (mTest (tOp mIs (mVar 1) (tC .non))) (tRet (tC .non)) tNext) (tSeq (tAsg (tLst tNil) (gName 2)) (tSeq (tFor (iRev K (tCons (mVar 0) tNil)) (gName 3) (mIfS (mAnd (mTest (tOp (mEqK K) (tOp (mIx K) (mVar 3) (tC (.int 0))) (tC (tx [100,101,97,108])))) (mAnd (mTest (mDIn true (tOp (mIx K) (mVar 3) (tC (.int 1))) (mVar 1))) (mTest (tOp (mIn K true) (tOp (mIx K) (mVar 3) (tC (.int 1))) (mVar 2))))) (tDrop (tBM K "list" rAppend (mVar 2) (tCons (tOp (mIx K) (mVar 3) (tC (.int 1))) tNil))) tNext)) (tRet (tTup (tCons (mVar 1) (tCons (mVar 2) tNil))))))))
noncomputable abbrev RD_sense_of (K:Fgg):Prop:=∀ vs H Q E,zah_ K vs H Q E→zbP_ K { nx:=fun _ H'=>Q .non H',rt:=Q } (start ["row", "signs", "columns", "step"] vs) H
theorem zfk_ {K:Fgg}:∀ vs H Q E,zah_ K vs H Q E→vs.length=1:=by
 rintro vs H Q E ⟨F,c,_,hc,_⟩; exact (zf_:CsN (csLast (tyL tyPass)) 1) hc
noncomputable def zbs_ (K:Fgg):TS:=(tSeq (tAsg (tComp ["column"] [("signs",0)] (mRng2 (tCons (tC (.int 1)) (tCons (tOp mAdd (tC (.int 36)) (tC (.int 1))) tNil))) (gName 0) tTrue (mDGet2 (mVar 1) (mVar 0) (tC (tx [32])))) (gName 2)) (tRet (tOp mAdd (tBM K "str" (mJoin K) (tC (tx [])) (tCons (mVar 2) tNil)) (mVar 1))))
noncomputable abbrev RD_card_with (K:Fgg):Prop:=∀ vs H Q E,zt_ K vs H Q E→zbs_ K { nx:=fun _ H'=>Q .non H',rt:=Q } (start ["signs", "mark", "body"] vs) H
theorem zeO_ {K:Fgg}:∀ vs H Q E,zt_ K vs H Q E→vs.length=2:=by
 rintro vs H Q E ⟨F,c,_,hc,_⟩; exact ((zg_ zf_):CsN (csCons (tyD kInt tyStr) (csLast tyStr)) 2) hc
noncomputable def zaG_ (K:Fgg):TS:=(tSeq (tFor (iAny K (tCB (mSortD K) (tCons (mVar 0) tNil))) (gName 2) (mIfS (mTest (tOp (mNeK K) (mDGet1 (mVar 1) (mVar 2)) (mDGet (mVar 0) (mVar 2)))) (tSeq (tAsg (tCB (mDict) (tCons (mVar 1) tNil)) (gName 3)) (tSeq (tDrop (mSetD (mVar 3) (mVar 2) (mIf (mTest (tOp (mEqK K) (mDGet (mVar 0) (mVar 2)) (tC (tx [48])))) (tC (tx [49])) (tC (tx [48]))))) (tRet (tCall (zt_ K) [] E0 (tCons (mVar 3) (tCons (tC (tx [48,48,48,49])) tNil)))))) tNext)) (tRet (tC .non)))
noncomputable abbrev RD_stopped_card (K:Fgg):Prop:=∀ vs H Q E,zy_ K vs H Q E→zaG_ K { nx:=fun _ H'=>Q .non H',rt:=Q } (start Qn16 vs) H
theorem zc5_ {K:Fgg}:∀ vs H Q E,zy_ K vs H Q E→vs.length=2:=by
 rintro vs H Q E ⟨F,c,_,hc,_⟩; exact ((zg_ zf_):CsN (csCons (tyD kInt tyStr) (csLast (tyD kInt tyStr))) 2) hc
noncomputable def z5_ (K:Fgg):TS:=(tSeq (tAsg (tCall (zy_ K) [] E0 (tCons (mVar 0) (tCons (mVar 1) tNil))) (gName 2)) (tSeq (mIfS (mTest (tOp mIs (mVar 2) (tC .non))) (tAsg (tCall (zy_ K) [] E0 (tCons (mVar 1) (tCons (mVar 0) tNil))) (gName 2)) tNext) (tRet (mIf (mTest (tOp mIs (mVar 2) (tC .non))) (tC .non) (tLst (tCons (mVar 2) tNil))))))
noncomputable abbrev RD_parting_of_picks (K:Fgg):Prop:=∀ vs H Q E,zr_ K vs H Q E→z5_ K { nx:=fun _ H'=>Q .non H',rt:=Q } (start ["signs", "others", "card"] vs) H
theorem zbZ_ {K:Fgg}:∀ vs H Q E,zr_ K vs H Q E→vs.length=2:=by
 rintro vs H Q E ⟨F,c,_,hc,_⟩; exact ((zg_ zf_):CsN (csCons (tyD kInt tyStr) (csLast (tyD kInt tyStr))) 2) hc
noncomputable def zaR_ (K:Fgg):TS:=(tRet (tOp (mEqK K) (tSl (mSl K) (mVar 0) tNoPart (mPart (tCB (mLen K) (tCons (mVar 1) tNil)))) (mVar 1)))
noncomputable abbrev RD_begins_with (K:Fgg):Prop:=∀ vs H Q E,zP_ K vs H Q E→zaR_ K { nx:=fun _ H'=>Q .non H',rt:=Q } (start Qn10 vs) H
theorem zdv_ {K:Fgg}:∀ vs H Q E,zP_ K vs H Q E→vs.length=2:=by
 rintro vs H Q E ⟨F,c,_,hc,_⟩; exact ((zg_ zf_):CsN (csCons (tyL tyInt) (csLast (tyL tyInt))) 2) hc
noncomputable def zap_ (K:Fgg):TS:=(tSeq (tAsg (tC (.int 0)) (gName 2)) (tSeq (tWhile (mAnd (mTest (tOp (mLtK K) (mVar 2) (tCB (mTwo min) (tCons (tCB (mLen K) (tCons (mVar 0) tNil)) (tCons (tCB (mLen K) (tCons (mVar 1) tNil)) tNil))))) (mTest (tOp (mEqK K) (tOp (mIx K) (mVar 0) (mVar 2)) (tOp (mIx K) (mVar 1) (mVar 2))))) (tAsg (tOp mAdd (mVar 2) (tC (.int 1))) (gName 2))) (tRet (mVar 2))))
noncomputable abbrev RD_shared_length (K:Fgg):Prop:=∀ vs H Q E,zB_ K vs H Q E→zap_ K { nx:=fun _ H'=>Q .non H',rt:=Q } (start ["one", "other", "length"] vs) H
theorem zcH_ {K:Fgg}:∀ vs H Q E,zB_ K vs H Q E→vs.length=2:=by
 rintro vs H Q E ⟨F,c,_,hc,_⟩; exact ((zg_ zf_):CsN (csCons (tyL tyInt) (csLast (tyL tyInt))) 2) hc
noncomputable def zaz_ (K:Fgg):TS:=(tSeq (tAsg (tCall (zB_ K) [] E0 (tCons (mVar 1) (tCons (mVar 2) tNil))) (gName 3)) (tSeq (tAsg (tCB (mDict) (tCons (mVar 0) tNil)) (gName 4)) (tSeq (tAsg (tCB (mDict) (tCons (mVar 0) tNil)) (gName 5)) (tSeq (tFor (mRng2 (tCons (tC (.int 1)) (tCons (tOp mAdd (tC (.int 36)) (tC (.int 1))) tNil))) (gName 6) (mIfS (mAnd (mTest (mDIn true (mVar 6) (mVar 0))) (mTest (tOp (mIn K true) (mVar 6) (tSl (mSl K) (mVar 1) tNoPart (mPart (mVar 3)))))) (tSeq (mDPut (mVar 4) (mVar 6) (tC (tx [48]))) (mDPut (mVar 5) (mVar 6) (tC (tx [49])))) tNext)) (tSeq (mIfS (mTest (tOp (mLtK K) (mVar 3) (tCB (mLen K) (tCons (mVar 2) tNil)))) (tSeq (mDPut (mVar 4) (tOp (mIx K) (mVar 2) (mVar 3)) (tC (tx [49]))) (mDPut (mVar 5) (tOp (mIx K) (mVar 2) (mVar 3)) (tC (tx [48])))) tNext) (tRet (tLst (tCons (tCall (zt_ K) [] E0 (tCons (mVar 5) (tCons (tC (tx [48,48,48,49])) tNil))) (tCons (tCall (zt_ K) [] E0 (tCons (mVar 4) (tCons (tC (tx [48,48,48,50])) tNil))) tNil)))))))))
noncomputable abbrev RD_crossed_deck (K:Fgg):Prop:=∀ vs H Q E,zz_ K vs H Q E→zaz_ K { nx:=fun _ H'=>Q .non H',rt:=Q } (start Qn6 vs) H
theorem zc9_ {K:Fgg}:∀ vs H Q E,zz_ K vs H Q E→vs.length=3:=by
 rintro vs H Q E ⟨F,c,_,hc,_⟩; exact ((zg_ (zg_ zf_)):CsN (csCons (tyD kInt tyStr) (csCons (tyL tyInt) (csLast (tyL tyInt)))) 3) hc
noncomputable def zY_ (K:Fgg):TS:=(tSeq (mIfS (mTest (tOp (mEqK K) (mVar 1) (mVar 2))) (tRet (tC .non)) tNext) (tSeq (mIfS (mTest (tCall (zP_ K) [] E0 (tCons (mVar 2) (tCons (mVar 1) tNil)))) (tRet (tCall (zz_ K) [] E0 (tCons (mVar 0) (tCons (mVar 2) (tCons (mVar 1) tNil))))) tNext) (tRet (tCall (zz_ K) [] E0 (tCons (mVar 0) (tCons (mVar 1) (tCons (mVar 2) tNil)))))))
noncomputable abbrev RD_parting_of_orders (K:Fgg):Prop:=∀ vs H Q E,zm_ K vs H Q E→zY_ K { nx:=fun _ H'=>Q .non H',rt:=Q } (start Qn3 vs) H
theorem zbY_ {K:Fgg}:∀ vs H Q E,zm_ K vs H Q E→vs.length=3:=by
 rintro vs H Q E ⟨F,c,_,hc,_⟩; exact ((zg_ (zg_ zf_)):CsN (csCons (tyD kInt tyStr) (csCons (tyL tyInt) (csLast (tyL tyInt)))) 3) hc
noncomputable def za9_ (K:Fgg):TS:=(tSeq (tAsg (tCall (zah_ K) [] E0 (tCons (mVar 0) tNil)) (gName 2)) (tSeq (tAsg (tCall (zah_ K) [] E0 (tCons (mVar 1) tNil)) (gName 3)) (tSeq (mIfS (mTest (tOp (mEqS K) (mVar 2) (mVar 3))) (tRet (tC .non)) tNext) (tSeq (mIfS (mTest (tOp mIs (mVar 2) (tC .non))) (tRet (tLst (tCons (tCall (zt_ K) [] E0 (tCons (tOp (mIx K) (mVar 3) (tC (.int 0))) (tCons (tC (tx [48,48,48,49])) tNil))) tNil))) tNext) (tSeq (mIfS (mTest (tOp mIs (mVar 3) (tC .non))) (tRet (tLst (tCons (tCall (zt_ K) [] E0 (tCons (tOp (mIx K) (mVar 2) (tC (.int 0))) (tCons (tC (tx [48,48,48,49])) tNil))) tNil))) tNext) (tSeq (tAsg (tCall (zr_ K) [] E0 (tCons (tOp (mIx K) (mVar 2) (tC (.int 0))) (tCons (tOp (mIx K) (mVar 3) (tC (.int 0))) tNil))) (gName 4)) (tSeq (mIfS (mTest (tOp mIs (mVar 4) (tC .non))) (tAsg (tCall (zm_ K) [] E0 (tCons (tOp (mIx K) (mVar 2) (tC (.int 0))) (tCons (tOp (mIx K) (mVar 2) (tC (.int 1))) (tCons (tOp (mIx K) (mVar 3) (tC (.int 1))) tNil)))) (gName 4)) tNext) (tRet (mVar 4)))))))))
noncomputable abbrev RD_parting_of (K:Fgg):Prop:=∀ vs H Q E,zL_ K vs H Q E→za9_ K { nx:=fun _ H'=>Q .non H',rt:=Q } (start Qn13 vs) H
theorem zd9_ {K:Fgg}:∀ vs H Q E,zL_ K vs H Q E→vs.length=2:=by
 rintro vs H Q E ⟨F,c,_,hc,_⟩; exact ((zg_ zf_):CsN (csCons (tyL tyPass) (csLast (tyL tyPass))) 2) hc
noncomputable def zbt_ (K:Fgg):TS:=(tSeq (tAsg tDNewK (gName 1)) (tSeq (tAsg (tLst tNil) (gName 2)) (tSeq (tFor (iAny K (tRev K (mVar 0) (mPart (mNeg (tC (.int 1)))))) (gName 3) (mIfS (mTest (tOp (mEqK K) (tOp (mIx K) (mVar 3) (tC (.int 0))) (tC (tx [112,105,99,107])))) (tSeq (mIfS (mAnd (mTest (mDIn false (tOp (mIx K) (mVar 3) (tC (.int 1))) (mVar 1))) (mTest (tOp (mNeK K) (mDGet (mVar 1) (tOp (mIx K) (mVar 3) (tC (.int 1)))) (tOp (mIx K) (mVar 3) (tC (.int 2)))))) (tRet (tC .non)) tNext) (mDPut (mVar 1) (tOp (mIx K) (mVar 3) (tC (.int 1))) (tOp (mIx K) (mVar 3) (tC (.int 2))))) (mIfS (mTest (tOp (mIn K true) (tOp (mIx K) (mVar 3) (tC (.int 1))) (mVar 2))) (tDrop (tBM K "list" rAppend (mVar 2) (tCons (tOp (mIx K) (mVar 3) (tC (.int 1))) tNil))) tNext))) (tRet (tTup (tCons (mVar 1) (tCons (tComp ["_law_column"] [("_law_picks",1)] (iAny K (mVar 2)) (gName 0) (mTest (mDIn true (mVar 0) (mVar 1))) (mVar 0)) tNil)))))))
noncomputable abbrev RD_law_sense (K:Fgg):Prop:=∀ vs H Q E,z2_ K vs H Q E→zbt_ K { nx:=fun _ H'=>Q .non H',rt:=Q } (start Qn12 vs) H
theorem zeB_ {K:Fgg}:∀ vs H Q E,z2_ K vs H Q E→vs.length=1:=by
 rintro vs H Q E ⟨F,c,_,hc,_⟩; exact (zf_:CsN (csLast (tyL tyPass)) 1) hc
noncomputable def zar_ (K:Fgg):TS:=(tSeq (mIfS (mOr (tNot (mTest (tCB (mIsa K) (tCons (mVar 0) (tCons (tC (.ty "list")) tNil))))) (mOr (mTest (tOp (mLtK K) (tCB (mLen K) (tCons (mVar 0) tNil)) (tC (.int 1)))) (mTest (tOp mGt (tCB (mLen K) (tCons (mVar 0) tNil)) (tC (.int 2)))))) (tRet (tC (.bl false))) tNext) (tSeq (tFor (iAny K (mVar 0)) (gName 1) (tSeq (mIfS (mOr (tNot (mTest (tCB (mIsa K) (tCons (mVar 1) (tCons (tC (.ty "str")) tNil))))) (mTest (tOp (mNeK K) (tCB (mLen K) (tCons (mVar 1) tNil)) (tC (.int 40))))) (tRet (tC (.bl false))) tNext) (tFor (iAny K (mVar 1)) (gName 2) (mIfS (mTest (tOp (mIn K true) (mVar 2) (tC (tx SG)))) (tRet (tC (.bl false))) tNext)))) (tRet (mOrV (tOp (mEqK K) (tCB (mLen K) (tCons (mVar 0) tNil)) (tC (.int 1))) (tOp (mNeK K) (tSl (mSl K) (tOp (mIx K) (mVar 0) (tC (.int 0))) (mPart (tC (.int 36))) tNoPart) (tSl (mSl K) (tOp (mIx K) (mVar 0) (tC (.int 1))) (mPart (tC (.int 36))) tNoPart))))))
noncomputable abbrev RD_law_are_cards (K:Fgg):Prop:=∀ vs H Q E,zC_ K vs H Q E→zar_ K { nx:=fun _ H'=>Q .non H',rt:=Q } (start Qn15 vs) H
theorem zcI_ {K:Fgg}:∀ vs H Q E,zC_ K vs H Q E→vs.length=1:=by
 rintro vs H Q E ⟨F,c,_,hc,_⟩; exact (zf_:CsN (csLast (tyOpt (tyL tyStr))) 1) hc
noncomputable def zbM_ (K:Fgg):TS:=(tSeq (tAsg (tOp mSub (tOp (mIx K) (mVar 1) (tC (.int 1))) (tC (.int 1))) (gName 2)) (tSeq (mIfS (mTest (tOp (mEqK K) (tOp (mIx K) (mVar 1) (tC (.int 0))) (tC (tx [112,105,99,107])))) (tRet (tComp ["_law_card"] [("_law_at",2),("_law_one",1)] (iAny K (mVar 0)) (gName 0) (mTest (tOp (mEqK K) (tOp (mIx K) (mVar 0) (mVar 1)) (tOp (mIx K) (mVar 2) (tC (.int 2))))) (mVar 0))) tNext) (tSeq (tAsg (tLst tNil) (gName 3)) (tSeq (tFor (iAny K (mVar 0)) (gName 4) (tSeq (tAsg (tCB (mLen K) (tCons (mVar 3) tNil)) (gName 5)) (tSeq (tWhile (mAnd (mTest (tOp mGt (mVar 5) (tC (.int 0)))) (mTest (tOp (mLtK K) (tOp (mIx K) (mVar 4) (mVar 2)) (tOp (mIx K) (tOp (mIx K) (mVar 3) (tOp mSub (mVar 5) (tC (.int 1)))) (mVar 2))))) (tAsg (tOp mSub (mVar 5) (tC (.int 1))) (gName 5))) (tDrop (tBM K "list" mInsert (mVar 3) (tCons (mVar 5) (tCons (mVar 4) tNil))))))) (tRet (mVar 3))))))
noncomputable abbrev RD_law_done (K:Fgg):Prop:=∀ vs H Q E,zal_ K vs H Q E→zbM_ K { nx:=fun _ H'=>Q .non H',rt:=Q } (start Qn5 vs) H
theorem zeX_ {K:Fgg}:∀ vs H Q E,zal_ K vs H Q E→vs.length=2:=by
 rintro vs H Q E ⟨F,c,_,hc,_⟩; exact ((zg_ zf_):CsN (csCons (tyL tyStr) (csLast tyPass)) 2) hc
noncomputable def zaD_ (K:Fgg):TS:=(tSeq (tAsg (tCB (mList K) (tCons (mVar 0) tNil)) (gName 2)) (tSeq (tFor (iAny K (mVar 1)) (gName 3) (tAsg (tCall (zal_ K) [] E0 (tCons (mVar 2) (tCons (mVar 3) tNil))) (gName 2))) (tRet (mVar 2))))
noncomputable abbrev RD_law_all_done (K:Fgg):Prop:=∀ vs H Q E,zA_ K vs H Q E→zaD_ K { nx:=fun _ H'=>Q .non H',rt:=Q } (start Qn11 vs) H
theorem zc3_ {K:Fgg}:∀ vs H Q E,zA_ K vs H Q E→vs.length=2:=by
 rintro vs H Q E ⟨F,c,_,hc,_⟩; exact ((zg_ zf_):CsN (csCons (tyL tyStr) (csLast (tyL tyPass))) 2) hc
noncomputable def za3_ (K:Fgg):TS:=(tSeq (mIfS (mTest (tOp (mEqS K) (tCall (z2_ K) [] E0 (tCons (mVar 1) tNil)) (tCall (z2_ K) [] E0 (tCons (mVar 2) tNil)))) (tRet (tOp mIs (mVar 0) (tC .non))) tNext) (tSeq (mIfS (tNot (mTest (tCall (zC_ K) [] E0 (tCons (mVar 0) tNil)))) (tRet (tC (.bl false))) tNext) (tRet (tOp (mNeK K) (tCall (zA_ K) [] E0 (tCons (mVar 0) (tCons (mVar 1) tNil))) (tCall (zA_ K) [] E0 (tCons (mVar 0) (tCons (mVar 2) tNil)))))))
noncomputable abbrev RD_law_parted (K:Fgg):Prop:=∀ vs H Q E,zM_ K vs H Q E→za3_ K { nx:=fun _ H'=>Q .non H',rt:=Q } (start Qn2 vs) H
theorem zd7_ {K:Fgg}:∀ vs H Q E,zM_ K vs H Q E→vs.length=3:=by
 rintro vs H Q E ⟨F,c,_,hc,_⟩; exact ((zg_ (zg_ zf_)):CsN (csCons (tyOpt (tyL tyStr)) (csCons (tyL tyPass) (csLast (tyL tyPass)))) 3) hc
noncomputable def zll_ (K:Fgg):TS:=(tSeq (tAsg (tC (tx SG)) (gName 1)) (tSeq (tAsg (tCall (zv_ K) [] E0 (tCons (mVar 0) (tCons (tC (.int 0)) tNil))) (gName 2)) (tSeq (tAsg (tOp mMod (tCall (zv_ K) [] E0 (tCons (mVar 0) (tCons (tC (.int 1)) tNil))) (tC (.int 36))) (gName 3)) (tSeq (tAsg (tOp mAdd (tSl (mSl K) (mVar 1) (mPart (mVar 3)) tNoPart) (tSl (mSl K) (mVar 1) tNoPart (mPart (mVar 3)))) (gName 4)) (tSeq (tAsg (tOp (mIx K) (tLst (tCons (tC (.int 2)) (tCons (tC (.int 1)) (tCons (tC (.int 4)) (tCons (tC (.int 36)) tNil))))) (tOp mMod (mVar 2) (tC (.int 4)))) (gName 5)) (tSeq (tAsg (tLst tNil) (gName 6)) (tSeq (tFor (iAny K (tSl (mSl K) (mVar 0) (mPart (tC (.int 4))) (mPart (tC (.int 44))))) (gName 7) (tDrop (tBM K "list" rAppend (mVar 6) (tCons (tCall (zag_ K) [] E0 (tCons (mVar 7) (tCons (mVar 4) (tCons (mVar 3) (tCons (mVar 5) (tCons (tOp (mIx K) (tLst (tCons (tC (.int 2)) (tCons (tC (.int 0)) (tCons (tC (.int 4)) tNil)))) (tOp mMod (tOp mDivG (mVar 2) (tC (.int 4))) (tC (.int 3)))) tNil)))))) tNil)))) (tSeq (tAsg (tCall (zag_ K) [] E0 (tCons (tOp mDivG (tCall (zv_ K) [] E0 (tCons (mVar 0) (tCons (tC (.int 3)) tNil))) (tC (.int 11))) (tCons (mVar 4) (tCons (mVar 3) (tCons (tOp mAdd (mVar 5) (tC (.int 1))) (tCons (tC (.int 4)) tNil)))))) (gName 8)) (tSeq (tAsg (tCall (zV_ K) [] E0 (tCons (mVar 6) (tCons (tOp mMod (tCall (zv_ K) [] E0 (tCons (mVar 0) (tCons (tC (.int 3)) tNil))) (tC (.int 11))) (tCons (tCall (zv_ K) [] E0 (tCons (mVar 0) (tCons (tC (.int 2)) tNil))) (tCons (mVar 8) tNil))))) (gName 9)) (tSeq (tAsg (tLst (tCons (tCB (mList K) (tCons (mVar 6) tNil)) (tCons (tCB (mList K) (tCons (mVar 9) tNil)) tNil))) (gName 10)) (tSeq (tAsg (tCall (zL_ K) [] E0 (tCons (tOp (mIx K) (mVar 10) (tC (.int 0))) (tCons (tOp (mIx K) (mVar 10) (tC (.int 1))) tNil))) (gName 11)) (tSeq (mIfS (mOr (tNot (mTest (tCall (zM_ K) [] E0 (tCons (mVar 11) (tCons (mVar 6) (tCons (mVar 9) tNil)))))) (mTest (tOp (mNeK K) (mVar 10) (tLst (tCons (mVar 6) (tCons (mVar 9) tNil)))))) (tRet (tC (.bl false))) tNext) (tSeq (mIfS (tNot (mTest (tCall (zM_ K) [] E0 (tCons (tCall (zL_ K) [] E0 (tCons (mVar 9) (tCons (mVar 6) tNil))) (tCons (mVar 9) (tCons (mVar 6) tNil)))))) (tRet (tC (.bl false))) tNext) (tRet (mAndV (tOp mIs (tCall (zL_ K) [] E0 (tCons (mVar 6) (tCons (tCB (mList K) (tCons (mVar 6) tNil)) tNil))) (tC .non)) (tCall (zM_ K) [] E0 (tCons (mVar 11) (tCons (mVar 6) (tCons (mVar 9) tNil)))))))))))))))))))
noncomputable abbrev RD_law (K:Fgg):Prop:=∀ vs H Q E,zeE_ K vs H Q E→zll_ K { nx:=fun _ H'=>Q .non H',rt:=Q } (start Qn0 vs) H
theorem zlb_ {K:Fgg}:∀ vs H Q E,zeE_ K vs H Q E→vs.length=1:=by
 intro vs H Q E h; obtain ⟨a,ns,rfl,_⟩:=h; rfl
end K17
namespace K17
open PySem PySem.Spec PyProof.Rows L2
section
variable {P:Program}{w:World}{K:Fgg}{mg:Str→Option Value}{base:Heap}
theorem zd8_:FnScope Qn9 Qn9 (defScope z1_):=⟨rfl,rfl,rfl,by decide +kernel,rfl,by decide +kernel,by decide +kernel⟩
theorem zdW_ (B_len:Gb mg "len") {cdv:Value}{A:Around}{outer:List Env}{s:Shared}{H:Hp}{E:XK}{f:Addr}(hr:Room 0 (A.deeper (envOfC "_law_cell_at" (defScope z1_) s.heap.objs.size f cdv))) :
  (PSs (cxOf CX0 P w K mg base Qn9 "_law_cell_at" (defScope z1_) f cdv A outer s H E).nox (defBody z1_) (zaQ_ K)) := 
 (zd_ (zad_ (zu_ (zhn_ hr.u60) (za_ 1) (zem_ zaj_ B_len (zc_ (za_ 0) zj_))) (zi_ (zR_ (zaV_ ix_M (za_ 0) (za_ 1) (fun _ _=>rfl)))) zD_) (zi_ (zR_ zh_)))
theorem zea_ (B_len:Gb mg "len") {f:Addr}{fd:FuncData}(F:Fun K "_law_cell_at" "_law_cell_at" z1_ f fd) (len:∀ vs H Q E,zv_ K vs H Q E→vs.length=2)
  (rd:∀ vs H Q E,zv_ K vs H Q E→zaQ_ K { nx:=fun _ H'=>Q .non H',rt:=Q } (start Qn9 vs) H):FnOk P w K mg base CX0 1 f fd Qn9 (zv_ K):=by
 refine F.ok zd8_ len (fun cdv A outer s H vs Q E hr h=>⟨_,zdW_ B_len hr,rd vs H Q E h⟩)
theorem zbv_:FnScope Qn1 Qn4 (defScope zaF_):=⟨rfl,rfl,rfl,by decide +kernel,rfl,by decide +kernel,by decide +kernel⟩
theorem zgr_  {cdv:Value}{A:Around}{outer:List Env}{s:Shared}{H:Hp}{E:XK}{f:Addr}(hr:Room 0 (A.deeper (envOfC "_law_pass" (defScope zaF_) s.heap.objs.size f cdv))) :
  (PSs (cxOf CX0 P w K mg base Qn1 "_law_pass" (defScope zaF_) f cdv A outer s H E).nox (defBody zaF_) (zbQ_ K)) := 
 (zd_ (zab_ (i:=5) zbv_.nd rfl (by first | exact Or.inl rfl | exact Or.inr rfl) (zck_ (l:=SG))) (zd_ (zab_ (i:=6) zbv_.nd rfl (by first | exact Or.inl rfl | exact Or.inr rfl) (zay_ zG_ (zay_ zbF_ (za_ 0) zh_) zh_)) (zd_ (zab_ (i:=6) zbv_.nd rfl (by first | exact Or.inl rfl | exact Or.inr rfl) (zay_ zbF_ (zay_ zkd_ (za_ 6) (za_ 6)) zh_)) (zd_ (zab_ (i:=7) zbv_.nd rfl (by first | exact Or.inl rfl | exact Or.inr rfl) (zay_ zG_ zh_ (zay_ zbF_ (zay_ zG_ (za_ 2) (zay_ zbF_ (zay_ zeK_ (za_ 6) zh_) (za_ 3))) zh_))) (zd_ (zad_ (zu_ zmh_ (zay_ zbF_ (za_ 6) zh_) (za_ 4)) (zi_ (zR_ (zew_ (zc_ (zck_ (l:=[100,101,97,108])) (zc_ (za_ 7) zj_))))) zD_) (zd_ (zad_ (zu_ (zaY_ hr.u60) (zay_ zbF_ (zay_ zeK_ (za_ 6) zh_) zh_) zh_) (zi_ (zR_ (zew_ (zc_ (zck_ (l:=[112,105,99,107])) (zc_ (za_ 7) (zc_ (zaV_ ix_M (za_ 5) (zay_ zbF_ (zay_ zeK_ (za_ 6) zh_) zh_) (fun _ _=>rfl)) zj_)))))) zD_) (zi_ (zR_ (zew_ (zc_ (zck_ (l:=[112,105,99,107])) (zc_ (za_ 7) (zc_ (zaV_ ix_M (za_ 1) (zay_ zfR_ (za_ 7) zh_) (fun _ _=>rfl)) zj_))))))))))))
theorem zgj_  {f:Addr}{fd:FuncData}(F:Fun K "_law_pass" "_law_pass" zaF_ f fd) (len:∀ vs H Q E,zag_ K vs H Q E→vs.length=5)
  (rd:∀ vs H Q E,zag_ K vs H Q E→zbQ_ K { nx:=fun _ H'=>Q .non H',rt:=Q } (start Qn1 vs) H):FnOk P w K mg base CX0 1 f fd Qn4 (zag_ K):=by
 refine F.ok zbv_ len (fun cdv A outer s H vs Q E hr h=>⟨_,zgr_  hr,rd vs H Q E h⟩)
theorem zbA_:FnScope Qn7 Qn8 (defScope zZ_):=⟨rfl,rfl,rfl,by decide +kernel,rfl,by decide +kernel,by decide +kernel⟩
theorem zed_ (B_len:Gb mg "len") (B_list:Gb mg "list") {cdv:Value}{A:Around}{outer:List Env}{s:Shared}{H:Hp}{E:XK}{f:Addr}(hr:Room 0 (A.deeper (envOfC "_law_changed" (defScope zZ_) s.heap.objs.size f cdv))) :
  (PSs (cxOf CX0 P w K mg base Qn7 "_law_changed" (defScope zZ_) f cdv A outer s H E).nox (defBody zZ_) (zaS_ K)) := 
 (zd_ (zad_ (zu_ (zaY_ hr.u60) (za_ 0) (zba_ zj_)) (zi_ (zR_ (zba_ (zc_ (za_ 3) zj_)))) zD_) (zd_ (zab_ (i:=2) zbA_.nd rfl (by first | exact Or.inl rfl | exact Or.inr rfl) (zay_ zbF_ (za_ 2) (zem_ zaj_ B_len (zc_ (za_ 0) zj_)))) (zd_ (zab_ (i:=4) zbA_.nd rfl (by first | exact Or.inl rfl | exact Or.inr rfl) (zaV_ ix_M (za_ 0) (za_ 2) (fun _ _=>rfl))) (zd_ (zad_ (zu_ (zaY_ hr.u60) (za_ 1) zh_) (zi_ (zR_ (zay_ zG_ (zF_ sl_M (za_ 0) zae_ (po_M (za_ 2))) (zF_ sl_M (za_ 0) (po_M (zay_ zG_ (za_ 2) zh_)) zae_)))) zD_) (zd_ (zad_ (zu_ (zaY_ hr.u60) (za_ 1) zh_) (zi_ (zR_ (zay_ zG_ (zay_ zG_ (zF_ sl_M (za_ 0) zae_ (po_M (za_ 2))) (zba_ (zc_ (za_ 4) zj_))) (zF_ sl_M (za_ 0) (po_M (za_ 2)) zae_)))) zD_) (zd_ (zad_ (zu_ (zaY_ hr.u60) (za_ 1) zh_) (zi_ (zR_ (zay_ zG_ (zay_ zG_ (zay_ zG_ (zF_ sl_M (za_ 0) zae_ (po_M (za_ 2))) (zF_ sl_M (za_ 0) (po_M (zay_ zG_ (za_ 2) zh_)) (po_M (zay_ zG_ (za_ 2) zh_)))) (zba_ (zc_ (za_ 4) zj_))) (zF_ sl_M (za_ 0) (po_M (zay_ zG_ (za_ 2) zh_)) zae_)))) zD_) (zd_ (zad_ (zu_ (zaY_ hr.u60) (za_ 1) zh_) (zi_ (zR_ (zay_ zG_ (zay_ zG_ (zF_ sl_M (za_ 0) zae_ (po_M (za_ 2))) (zF_ sl_M (za_ 0) (po_M (zay_ zG_ (za_ 2) zh_)) zae_)) (zba_ (zc_ (za_ 4) zj_))))) zD_) (zd_ (zad_ (zu_ (zaY_ hr.u60) (za_ 1) zh_) (zi_ (zR_ (zay_ zG_ (zay_ zG_ (zba_ (zc_ (za_ 4) zj_)) (zF_ sl_M (za_ 0) zae_ (po_M (za_ 2)))) (zF_ sl_M (za_ 0) (po_M (zay_ zG_ (za_ 2) zh_)) zae_)))) zD_) (zd_ (zad_ (zu_ (zaY_ hr.u60) (za_ 1) zh_) (zi_ (zR_ (zay_ zG_ (zay_ zG_ (zF_ sl_M (za_ 0) zae_ (po_M (za_ 2))) (zba_ (zc_ (zay_ zls_ (zew_ (zc_ (zaV_ ix_M (za_ 4) zh_ (fun _ _=>rfl)) (zc_ (zaV_ ix_M (za_ 3) zh_ (fun _ _=>rfl)) zj_))) (zF_ zmB_ (za_ 4) (po_M zh_) zae_)) zj_))) (zF_ sl_M (za_ 0) (po_M (zay_ zG_ (za_ 2) zh_)) zae_)))) zD_) (zd_ (zad_ (PW.pt (zci_ (zu_ (zaY_ hr.u60) (za_ 1) zh_) (zci_ (zu_ (zaY_ hr.u60) (zem_ zaj_ B_len (zc_ (za_ 4) zj_)) zh_) (zdl_ (zu_ (zaY_ hr.u60) (zem_ zaj_ B_len (zc_ (za_ 3) zj_)) zh_))))) (zi_ (zR_ (zay_ zG_ (zay_ zG_ (zF_ sl_M (za_ 0) zae_ (po_M (za_ 2))) (zba_ (zc_ (zew_ (zc_ (zck_ (l:=[112,105,99,107])) (zc_ (zaV_ ix_M (za_ 4) zh_ (fun _ _=>rfl)) (zc_ (zaV_ ix_M (za_ 3) zh_ (fun _ _=>rfl)) zj_)))) zj_))) (zF_ sl_M (za_ 0) (po_M (zay_ zG_ (za_ 2) zh_)) zae_)))) zD_) (zd_ (zad_ (zu_ (zaY_ hr.u60) (za_ 1) zh_) (zi_ (zR_ (zay_ zG_ (zay_ zG_ (zF_ sl_M (za_ 0) zae_ (po_M (za_ 2))) (zba_ (zc_ (za_ 3) zj_))) (zF_ sl_M (za_ 0) (po_M (za_ 2)) zae_)))) zD_) (zd_ (zad_ (PW.pt (zci_ (zu_ (zaY_ hr.u60) (za_ 1) zh_) (zdl_ (zu_ (zaY_ hr.u60) (zem_ zaj_ B_len (zc_ (za_ 3) zj_)) zh_)))) (zi_ (zR_ (zay_ zG_ (zay_ zG_ (zF_ sl_M (za_ 0) zae_ (po_M (za_ 2))) (zba_ (zc_ (zew_ (zc_ (zck_ (l:=[112,105,99,107])) (zc_ (zaV_ ix_M (za_ 4) zh_ (fun _ _=>rfl)) (zc_ (zaV_ ix_M (za_ 3) zh_ (fun _ _=>rfl)) zj_)))) zj_))) (zF_ sl_M (za_ 0) (po_M (zay_ zG_ (za_ 2) zh_)) zae_)))) zD_) (zi_ (zR_ (ziU_ "list" (zbK_ rfl) B_list (zc_ (za_ 0) zj_))))))))))))))))
theorem zd5_ (B_len:Gb mg "len") (B_list:Gb mg "list") {f:Addr}{fd:FuncData}(F:Fun K "_law_changed" "_law_changed" zZ_ f fd) (len:∀ vs H Q E,zV_ K vs H Q E→vs.length=4)
  (rd:∀ vs H Q E,zV_ K vs H Q E→zaS_ K { nx:=fun _ H'=>Q .non H',rt:=Q } (start Qn7 vs) H):FnOk P w K mg base CX0 1 f fd Qn8 (zV_ K):=by
 refine F.ok zbA_ len (fun cdv A outer s H vs Q E hr h=>⟨_,zed_ B_len B_list hr,rd vs H Q E h⟩)
theorem zbj_:FnScope ["row", "signs", "step"] ["row"] (defScope zU_):=⟨rfl,rfl,rfl,by decide +kernel,rfl,by decide +kernel,by decide +kernel⟩
theorem zdI_  {cdv:Value}{A:Around}{outer:List Env}{s:Shared}{H:Hp}{E:XK}{f:Addr}(hr:Room 0 (A.deeper (envOfC "picked_signs" (defScope zU_) s.heap.objs.size f cdv))) :
  (PSs (cxOf CX0 P w K mg base ["row", "signs", "step"] "picked_signs" (defScope zU_) f cdv A outer s H E).nox (defBody zU_) (zaC_ K)) := 
 (zd_ (zab_ (i:=1) zbj_.nd rfl (by first | exact Or.inl rfl | exact Or.inr rfl) zgN_) (zd_ (zds_ PassesOwn.never rfl (zdB_ (za_ 0)) (zbg_ (i:=2) zbj_.nd rfl (by first | exact Or.inl rfl | exact Or.inr rfl)) (zi_ (zad_ (zu_ (zaY_ hr.u60) (zaV_ ix_M (za_ 2) zh_ (fun _ _=>rfl)) (zck_ (l:=[112,105,99,107]))) (zi_ (zad_ (zu_ (ze6_ hr.u60) (zhr_ hr.u60 (za_ 1) (zaV_ ix_M (za_ 2) zh_ (fun _ _=>rfl)) (zaV_ ix_M (za_ 2) zh_ (fun _ _=>rfl))) (zaV_ ix_M (za_ 2) zh_ (fun _ _=>rfl))) (zi_ (zR_ zb5_)) zD_)) zD_))) (zi_ (zR_ (za_ 1)))))
theorem zdo_  {f:Addr}{fd:FuncData}(F:Fun K "picked_signs" "picked_signs" zU_ f fd) (len:∀ vs H Q E,zK_ K vs H Q E→vs.length=1)
  (rd:∀ vs H Q E,zK_ K vs H Q E→zaC_ K { nx:=fun _ H'=>Q .non H',rt:=Q } (start ["row", "signs", "step"] vs) H):FnOk P w K mg base CX0 1 f fd ["row"] (zK_ K):=by
 refine F.ok zbj_ len (fun cdv A outer s H vs Q E hr h=>⟨_,zdI_  hr,rd vs H Q E h⟩)
theorem zbV_:FnScope ["row", "signs", "columns", "step"] ["row"] (defScope zaH_):=⟨rfl,rfl,rfl,by decide +kernel,rfl,by decide +kernel,by decide +kernel⟩
theorem zgn_ (G_picked_signs:Gd P w K mg base CX0 1 "picked_signs" ["row"] (zK_ K)) (B_reversed:Gb mg "reversed") {cdv:Value}{A:Around}{outer:List Env}{s:Shared}{H:Hp}{E:XK}{f:Addr}(hr:Room 1 (A.deeper (envOfC "sense_of" (defScope zaH_) s.heap.objs.size f cdv))) :
  (PSs (cxOf CX0 P w K mg base ["row", "signs", "columns", "step"] "sense_of" (defScope zaH_) f cdv A outer s H E).nox (defBody zaH_) (zbP_ K)) := 
 (zd_ (zab_ (i:=1) zbV_.nd rfl (by first | exact Or.inl rfl | exact Or.inr rfl) (zs_ G_picked_signs (hr.mono (j:=1) (by decide)) (zc_ (za_ 0) zj_))) (zd_ (zad_ (zu_ zer_ (za_ 1) zb5_) (zi_ (zR_ zb5_)) zD_) (zd_ (zab_ (i:=2) zbV_.nd rfl (by first | exact Or.inl rfl | exact Or.inr rfl) (zba_ zj_)) (zd_ (zds_ PassesOwn.never rfl (zl8_ B_reversed (zc_ (za_ 0) zj_)) (zbg_ (i:=3) zbV_.nd rfl (by first | exact Or.inl rfl | exact Or.inr rfl)) (zi_ (zad_ (PW.pt (zci_ (zu_ (zaY_ hr.u60) (zaV_ ix_M (za_ 3) zh_ (fun _ _=>rfl)) (zck_ (l:=[100,101,97,108]))) (zci_ (zcU_ hr.u60 (zaV_ ix_M (za_ 3) zh_ (fun _ _=>rfl)) (za_ 1)) (zdl_ (zu_ zcN_ (zaV_ ix_M (za_ 3) zh_ (fun _ _=>rfl)) (za_ 2)))))) (zi_ (zeo_ (zlt_ PySem.F.plainAttrs_list PySem.F.slot_list_append PySem.F.type_list_append zcQ_ (za_ 2) (zc_ (zaV_ ix_M (za_ 3) zh_ (fun _ _=>rfl)) zj_)))) zD_))) (zi_ (zR_ (zew_ (zc_ (za_ 1) (zc_ (za_ 2) zj_)))))))))
theorem zgc_ (G_picked_signs:Gd P w K mg base CX0 1 "picked_signs" ["row"] (zK_ K)) (B_reversed:Gb mg "reversed") {f:Addr}{fd:FuncData}(F:Fun K "sense_of" "sense_of" zaH_ f fd) (len:∀ vs H Q E,zah_ K vs H Q E→vs.length=1)
  (rd:∀ vs H Q E,zah_ K vs H Q E→zbP_ K { nx:=fun _ H'=>Q .non H',rt:=Q } (start ["row", "signs", "columns", "step"] vs) H):FnOk P w K mg base CX0 2 f fd ["row"] (zah_ K):=by
 refine F.ok zbV_ len (fun cdv A outer s H vs Q E hr h=>⟨_,zgn_ G_picked_signs B_reversed hr,rd vs H Q E h⟩)
theorem zdf_:FnScope ["signs", "mark", "body"] Qn17 (defScope zan_):=⟨rfl,rfl,rfl,by decide +kernel,rfl,by decide +kernel,by decide +kernel⟩
theorem zfh_ (C_BODY_WIDTH:Gc mg "BODY_WIDTH" (.int 36)) (B_range:Gb mg "range") {cdv:Value}{A:Around}{outer:List Env}{s:Shared}{H:Hp}{E:XK}{f:Addr}(hr:Room 0 (A.deeper (envOfC "card_with" (defScope zan_) s.heap.objs.size f cdv))) :
  (PSs (cxOf CX0 P w K mg base ["signs", "mark", "body"] "card_with" (defScope zan_) f cdv A outer s H E).nox (defBody zan_) (zbs_ K)) := 
 (zd_ (zg3_ (cl:=_) (lv:=["column"]) (fr:=[("signs",0)]) rfl ⟨rfl,by decide +kernel,rfl,by decide +kernel,(zfB_ (by refine ⟨rfl,by decide +kernel,?_,?_⟩<;>first | exact Or.inl rfl | exact Or.inr rfl) zjL_)⟩ (zg7_ B_range (zc_ zh_ (zc_ (zay_ zG_ (zf4_ C_BODY_WIDTH) zh_) zj_))) (fun _ _ _ _=>(zbg_ (i:=0) (show List.Nodup (["column", "signs"]:List Str) from by decide +kernel) rfl (Or.inl rfl))) (fun _ _ _ _=>zkD_) (fun _ _ _ _=>(ziz_ hr.u60 (za_ 1) (za_ 0) (zck_ (l:=[32])))) (zbg_ (i:=2) zdf_.nd rfl (by first | exact Or.inl rfl | exact Or.inr rfl))) (zi_ (zR_ (zay_ zG_ (pe_sm PySem.F.slot_str_join PySem.F.type_str_join zko_ (zck_ (l:=[])) (zc_ (za_ 2) zj_)) (za_ 1)))))
theorem zfd_ (C_BODY_WIDTH:Gc mg "BODY_WIDTH" (.int 36)) (B_range:Gb mg "range") {f:Addr}{fd:FuncData}(F:Fun K "card_with" "card_with" zan_ f fd) (len:∀ vs H Q E,zt_ K vs H Q E→vs.length=2)
  (rd:∀ vs H Q E,zt_ K vs H Q E→zbs_ K { nx:=fun _ H'=>Q .non H',rt:=Q } (start ["signs", "mark", "body"] vs) H):FnOk P w K mg base CX0 1 f fd Qn17 (zt_ K):=by
 refine F.ok zdf_ len (fun cdv A outer s H vs Q E hr h=>⟨_,zfh_ C_BODY_WIDTH B_range hr,rd vs H Q E h⟩)
theorem zbo_:FnScope Qn16 Qn14 (defScope zQ_):=⟨rfl,rfl,rfl,by decide +kernel,rfl,by decide +kernel,by decide +kernel⟩
theorem zdG_ (G_card_with:Gd P w K mg base CX0 1 "card_with" Qn17 (zt_ K)) (C_LOW:Gc mg "LOW" (tx [48])) (C_HIGH:Gc mg "HIGH" (tx [49])) (C_ONE_MARK:Gc mg "ONE_MARK" (tx [48,48,48,49])) (B_sorted:Gb mg "sorted") (B_dict:Gb mg "dict") {cdv:Value}{A:Around}{outer:List Env}{s:Shared}{H:Hp}{E:XK}{f:Addr}(hr:Room 1 (A.deeper (envOfC "stopped_card" (defScope zQ_) s.heap.objs.size f cdv))) :
  (PSs (cxOf CX0 P w K mg base Qn16 "stopped_card" (defScope zQ_) f cdv A outer s H E).nox (defBody zQ_) (zaG_ K)) := 
 (zd_ (zds_ PassesOwn.never rfl (zdB_ (zem_ (zfb_ rfl) B_sorted (zc_ (za_ 0) zj_))) (zbg_ (i:=2) zbo_.nd rfl (by first | exact Or.inl rfl | exact Or.inr rfl)) (zi_ (zad_ (zu_ (ze6_ hr.u60) (zh6_ hr.u60 (za_ 1) (za_ 2)) (zeY_ hr.u60 (za_ 0) (za_ 2))) (zd_ (zab_ (i:=3) zbo_.nd rfl (by first | exact Or.inl rfl | exact Or.inr rfl) (ziU_ "dict" zde_ B_dict (zc_ (za_ 1) zj_))) (zd_ (zeo_ (zhr_ hr.u60 (za_ 3) (za_ 2) (zkB_ (zu_ (zaY_ hr.u60) (zeY_ hr.u60 (za_ 0) (za_ 2)) (zf4_ C_LOW)) (zf4_ C_HIGH) (zf4_ C_LOW)))) (zi_ (zR_ (zs_ G_card_with (hr.mono (j:=1) (by decide)) (zc_ (za_ 3) (zc_ (zf4_ C_ONE_MARK) zj_))))))) zD_))) (zi_ (zR_ zb5_)))
theorem zdz_ (G_card_with:Gd P w K mg base CX0 1 "card_with" Qn17 (zt_ K)) (C_LOW:Gc mg "LOW" (tx [48])) (C_HIGH:Gc mg "HIGH" (tx [49])) (C_ONE_MARK:Gc mg "ONE_MARK" (tx [48,48,48,49])) (B_sorted:Gb mg "sorted") (B_dict:Gb mg "dict") {f:Addr}{fd:FuncData}(F:Fun K "stopped_card" "stopped_card" zQ_ f fd) (len:∀ vs H Q E,zy_ K vs H Q E→vs.length=2)
  (rd:∀ vs H Q E,zy_ K vs H Q E→zaG_ K { nx:=fun _ H'=>Q .non H',rt:=Q } (start Qn16 vs) H):FnOk P w K mg base CX0 2 f fd Qn14 (zy_ K):=by
 refine F.ok zbo_ len (fun cdv A outer s H vs Q E hr h=>⟨_,zdG_ G_card_with C_LOW C_HIGH C_ONE_MARK B_sorted B_dict hr,rd vs H Q E h⟩)
theorem zaB_:FnScope ["signs", "others", "card"] Qn14 (defScope zw_):=⟨rfl,rfl,rfl,by decide +kernel,rfl,by decide +kernel,by decide +kernel⟩
theorem zct_ (G_stopped_card:Gd P w K mg base CX0 2 "stopped_card" Qn14 (zy_ K)) {cdv:Value}{A:Around}{outer:List Env}{s:Shared}{H:Hp}{E:XK}{f:Addr}(hr:Room 2 (A.deeper (envOfC "parting_of_picks" (defScope zw_) s.heap.objs.size f cdv))) :
  (PSs (cxOf CX0 P w K mg base ["signs", "others", "card"] "parting_of_picks" (defScope zw_) f cdv A outer s H E).nox (defBody zw_) (z5_ K)) := 
 (zd_ (zab_ (i:=2) zaB_.nd rfl (by first | exact Or.inl rfl | exact Or.inr rfl) (zs_ G_stopped_card (hr.mono (j:=2) (by decide)) (zc_ (za_ 0) (zc_ (za_ 1) zj_)))) (zd_ (zad_ (zu_ zer_ (za_ 2) zb5_) (zi_ (zab_ (i:=2) zaB_.nd rfl (by first | exact Or.inl rfl | exact Or.inr rfl) (zs_ G_stopped_card (hr.mono (j:=2) (by decide)) (zc_ (za_ 1) (zc_ (za_ 0) zj_))))) zD_) (zi_ (zR_ (zkB_ (zu_ zer_ (za_ 2) zb5_) zb5_ (zba_ (zc_ (za_ 2) zj_)))))))
theorem zcp_ (G_stopped_card:Gd P w K mg base CX0 2 "stopped_card" Qn14 (zy_ K)) {f:Addr}{fd:FuncData}(F:Fun K "parting_of_picks" "parting_of_picks" zw_ f fd) (len:∀ vs H Q E,zr_ K vs H Q E→vs.length=2)
  (rd:∀ vs H Q E,zr_ K vs H Q E→z5_ K { nx:=fun _ H'=>Q .non H',rt:=Q } (start ["signs", "others", "card"] vs) H):FnOk P w K mg base CX0 3 f fd Qn14 (zr_ K):=by
 refine F.ok zaB_ len (fun cdv A outer s H vs Q E hr h=>⟨_,zct_ G_stopped_card hr,rd vs H Q E h⟩)
theorem zdU_:FnScope Qn10 Qn10 (defScope z0_):=⟨rfl,rfl,rfl,by decide +kernel,rfl,by decide +kernel,by decide +kernel⟩
theorem zec_ (B_len:Gb mg "len") {cdv:Value}{A:Around}{outer:List Env}{s:Shared}{H:Hp}{E:XK}{f:Addr}(hr:Room 0 (A.deeper (envOfC "begins_with" (defScope z0_) s.heap.objs.size f cdv))) :
  (PSs (cxOf CX0 P w K mg base Qn10 "begins_with" (defScope z0_) f cdv A outer s H E).nox (defBody z0_) (zaR_ K)) := 
 (zi_ (zR_ (zdS_ (zaY_ hr.u60) (zF_ sl_M (za_ 0) zae_ (po_M (zem_ zaj_ B_len (zc_ (za_ 1) zj_)))) (za_ 1))))
theorem zef_ (B_len:Gb mg "len") {f:Addr}{fd:FuncData}(F:Fun K "begins_with" "begins_with" z0_ f fd) (len:∀ vs H Q E,zP_ K vs H Q E→vs.length=2)
  (rd:∀ vs H Q E,zP_ K vs H Q E→zaR_ K { nx:=fun _ H'=>Q .non H',rt:=Q } (start Qn10 vs) H):FnOk P w K mg base CX0 1 f fd Qn10 (zP_ K):=by
 refine F.ok zdU_ len (fun cdv A outer s H vs Q E hr h=>⟨_,zec_ B_len hr,rd vs H Q E h⟩)
theorem za7_:FnScope ["one", "other", "length"] ["one", "other"] (defScope zH_):=⟨rfl,rfl,rfl,by decide +kernel,rfl,by decide +kernel,by decide +kernel⟩
theorem zdg_ (B_min:Gb mg "min") (B_len:Gb mg "len") {cdv:Value}{A:Around}{outer:List Env}{s:Shared}{H:Hp}{E:XK}{f:Addr}(hr:Room 0 (A.deeper (envOfC "shared_length" (defScope zH_) s.heap.objs.size f cdv))) :
  (PSs (cxOf CX0 P w K mg base ["one", "other", "length"] "shared_length" (defScope zH_) f cdv A outer s H E).nox (defBody zH_) (zap_ K)) := 
 (zd_ (zab_ (i:=2) za7_.nd rfl (by first | exact Or.inl rfl | exact Or.inr rfl) zh_) (zd_ (zgZ_ PassesOwn.never (PW.pt (zci_ (zu_ (zhn_ hr.u60) (za_ 2) (zem_ (zif_ rfl) B_min (zc_ (zem_ zaj_ B_len (zc_ (za_ 0) zj_)) (zc_ (zem_ zaj_ B_len (zc_ (za_ 1) zj_)) zj_)))) (zdl_ (zu_ (zaY_ hr.u60) (zaV_ ix_M (za_ 0) (za_ 2) (fun _ _=>rfl)) (zaV_ ix_M (za_ 1) (za_ 2) (fun _ _=>rfl)))))) (zi_ (zab_ (i:=2) za7_.nd rfl (by first | exact Or.inl rfl | exact Or.inr rfl) (zay_ zG_ (za_ 2) zh_)))) (zi_ (zR_ (za_ 2)))))
theorem zc6_ (B_min:Gb mg "min") (B_len:Gb mg "len") {f:Addr}{fd:FuncData}(F:Fun K "shared_length" "shared_length" zH_ f fd) (len:∀ vs H Q E,zB_ K vs H Q E→vs.length=2)
  (rd:∀ vs H Q E,zB_ K vs H Q E→zap_ K { nx:=fun _ H'=>Q .non H',rt:=Q } (start ["one", "other", "length"] vs) H):FnOk P w K mg base CX0 1 f fd ["one", "other"] (zB_ K):=by
 refine F.ok za7_ len (fun cdv A outer s H vs Q E hr h=>⟨_,zdg_ B_min B_len hr,rd vs H Q E h⟩)
theorem zaq_:FnScope Qn6 Qn3 (defScope zO_):=⟨rfl,rfl,rfl,by decide +kernel,rfl,by decide +kernel,by decide +kernel⟩
theorem zdu_ (G_shared_length:Gd P w K mg base CX0 1 "shared_length" ["one", "other"] (zB_ K)) (G_card_with:Gd P w K mg base CX0 1 "card_with" Qn17 (zt_ K)) (C_BODY_WIDTH:Gc mg "BODY_WIDTH" (.int 36)) (C_LOW:Gc mg "LOW" (tx [48])) (C_HIGH:Gc mg "HIGH" (tx [49])) (C_OTHER_MARK:Gc mg "OTHER_MARK" (tx [48,48,48,50])) (C_ONE_MARK:Gc mg "ONE_MARK" (tx [48,48,48,49])) (B_dict:Gb mg "dict") (B_range:Gb mg "range") (B_len:Gb mg "len") {cdv:Value}{A:Around}{outer:List Env}{s:Shared}{H:Hp}{E:XK}{f:Addr}(hr:Room 1 (A.deeper (envOfC "crossed_deck" (defScope zO_) s.heap.objs.size f cdv))) :
  (PSs (cxOf CX0 P w K mg base Qn6 "crossed_deck" (defScope zO_) f cdv A outer s H E).nox (defBody zO_) (zaz_ K)) := 
 (zd_ (zab_ (i:=3) zaq_.nd rfl (by first | exact Or.inl rfl | exact Or.inr rfl) (zs_ G_shared_length (hr.mono (j:=1) (by decide)) (zc_ (za_ 1) (zc_ (za_ 2) zj_)))) (zd_ (zab_ (i:=4) zaq_.nd rfl (by first | exact Or.inl rfl | exact Or.inr rfl) (ziU_ "dict" zde_ B_dict (zc_ (za_ 0) zj_))) (zd_ (zab_ (i:=5) zaq_.nd rfl (by first | exact Or.inl rfl | exact Or.inr rfl) (ziU_ "dict" zde_ B_dict (zc_ (za_ 0) zj_))) (zd_ (zds_ PassesOwn.never rfl (zg7_ B_range (zc_ zh_ (zc_ (zay_ zG_ (zf4_ C_BODY_WIDTH) zh_) zj_))) (zbg_ (i:=6) zaq_.nd rfl (by first | exact Or.inl rfl | exact Or.inr rfl)) (zi_ (zad_ (PW.pt (zci_ (zcU_ hr.u60 (za_ 6) (za_ 0)) (zdl_ (zu_ zcN_ (za_ 6) (zF_ sl_M (za_ 1) zae_ (po_M (za_ 3))))))) (zd_ (zdm_ hr.u60 (za_ 4) (za_ 6) (zf4_ C_LOW)) (zi_ (zdm_ hr.u60 (za_ 5) (za_ 6) (zf4_ C_HIGH)))) zD_))) (zd_ (zad_ (zu_ (zhn_ hr.u60) (za_ 3) (zem_ zaj_ B_len (zc_ (za_ 2) zj_))) (zd_ (zdm_ hr.u60 (za_ 4) (zaV_ ix_M (za_ 2) (za_ 3) (fun _ _=>rfl)) (zf4_ C_HIGH)) (zi_ (zdm_ hr.u60 (za_ 5) (zaV_ ix_M (za_ 2) (za_ 3) (fun _ _=>rfl)) (zf4_ C_LOW)))) zD_) (zi_ (zR_ (zba_ (zc_ (zs_ G_card_with (hr.mono (j:=1) (by decide)) (zc_ (za_ 5) (zc_ (zf4_ C_ONE_MARK) zj_))) (zc_ (zs_ G_card_with (hr.mono (j:=1) (by decide)) (zc_ (za_ 4) (zc_ (zf4_ C_OTHER_MARK) zj_))) zj_))))))))))
theorem zdw_ (G_shared_length:Gd P w K mg base CX0 1 "shared_length" ["one", "other"] (zB_ K)) (G_card_with:Gd P w K mg base CX0 1 "card_with" Qn17 (zt_ K)) (C_BODY_WIDTH:Gc mg "BODY_WIDTH" (.int 36)) (C_LOW:Gc mg "LOW" (tx [48])) (C_HIGH:Gc mg "HIGH" (tx [49])) (C_OTHER_MARK:Gc mg "OTHER_MARK" (tx [48,48,48,50])) (C_ONE_MARK:Gc mg "ONE_MARK" (tx [48,48,48,49])) (B_dict:Gb mg "dict") (B_range:Gb mg "range") (B_len:Gb mg "len") {f:Addr}{fd:FuncData}(F:Fun K "crossed_deck" "crossed_deck" zO_ f fd) (len:∀ vs H Q E,zz_ K vs H Q E→vs.length=3)
  (rd:∀ vs H Q E,zz_ K vs H Q E→zaz_ K { nx:=fun _ H'=>Q .non H',rt:=Q } (start Qn6 vs) H):FnOk P w K mg base CX0 2 f fd Qn3 (zz_ K):=by
 refine F.ok zaq_ len (fun cdv A outer s H vs Q E hr h=>⟨_,zdu_ G_shared_length G_card_with C_BODY_WIDTH C_LOW C_HIGH C_OTHER_MARK C_ONE_MARK B_dict B_range B_len hr,rd vs H Q E h⟩)
theorem zca_:FnScope Qn3 Qn3 (defScope zq_):=⟨rfl,rfl,rfl,by decide +kernel,rfl,by decide +kernel,by decide +kernel⟩
theorem zcc_ (G_begins_with:Gd P w K mg base CX0 1 "begins_with" Qn10 (zP_ K)) (G_crossed_deck:Gd P w K mg base CX0 2 "crossed_deck" Qn3 (zz_ K)) {cdv:Value}{A:Around}{outer:List Env}{s:Shared}{H:Hp}{E:XK}{f:Addr}(hr:Room 2 (A.deeper (envOfC "parting_of_orders" (defScope zq_) s.heap.objs.size f cdv))) :
  (PSs (cxOf CX0 P w K mg base Qn3 "parting_of_orders" (defScope zq_) f cdv A outer s H E).nox (defBody zq_) (zY_ K)) := 
 (zd_ (zad_ (zu_ (zaY_ hr.u60) (za_ 1) (za_ 2)) (zi_ (zR_ zb5_)) zD_) (zd_ (zad_ (zdL_ (zs_ G_begins_with (hr.mono (j:=1) (by decide)) (zc_ (za_ 2) (zc_ (za_ 1) zj_)))) (zi_ (zR_ (zs_ G_crossed_deck (hr.mono (j:=2) (by decide)) (zc_ (za_ 0) (zc_ (za_ 2) (zc_ (za_ 1) zj_)))))) zD_) (zi_ (zR_ (zs_ G_crossed_deck (hr.mono (j:=2) (by decide)) (zc_ (za_ 0) (zc_ (za_ 1) (zc_ (za_ 2) zj_))))))))
theorem zb9_ (G_begins_with:Gd P w K mg base CX0 1 "begins_with" Qn10 (zP_ K)) (G_crossed_deck:Gd P w K mg base CX0 2 "crossed_deck" Qn3 (zz_ K)) {f:Addr}{fd:FuncData}(F:Fun K "parting_of_orders" "parting_of_orders" zq_ f fd) (len:∀ vs H Q E,zm_ K vs H Q E→vs.length=3)
  (rd:∀ vs H Q E,zm_ K vs H Q E→zY_ K { nx:=fun _ H'=>Q .non H',rt:=Q } (start Qn3 vs) H):FnOk P w K mg base CX0 3 f fd Qn3 (zm_ K):=by
 refine F.ok zca_ len (fun cdv A outer s H vs Q E hr h=>⟨_,zcc_ G_begins_with G_crossed_deck hr,rd vs H Q E h⟩)
theorem zaT_:FnScope Qn13 ["row", "other"] (defScope z7_):=⟨rfl,rfl,rfl,by decide +kernel,rfl,by decide +kernel,by decide +kernel⟩
theorem zeP_ (G_sense_of:Gd P w K mg base CX0 2 "sense_of" ["row"] (zah_ K)) (G_card_with:Gd P w K mg base CX0 1 "card_with" Qn17 (zt_ K)) (G_parting_of_picks:Gd P w K mg base CX0 3 "parting_of_picks" Qn14 (zr_ K)) (G_parting_of_orders:Gd P w K mg base CX0 3 "parting_of_orders" Qn3 (zm_ K)) (C_ONE_MARK:Gc mg "ONE_MARK" (tx [48,48,48,49])) {cdv:Value}{A:Around}{outer:List Env}{s:Shared}{H:Hp}{E:XK}{f:Addr}(hr:Room 3 (A.deeper (envOfC "parting_of" (defScope z7_) s.heap.objs.size f cdv))) :
  (PSs (cxOf CX0 P w K mg base Qn13 "parting_of" (defScope z7_) f cdv A outer s H E).nox (defBody z7_) (za9_ K)) := 
 (zd_ (zab_ (i:=2) zaT_.nd rfl (by first | exact Or.inl rfl | exact Or.inr rfl) (zs_ G_sense_of (hr.mono (j:=2) (by decide)) (zc_ (za_ 0) zj_))) (zd_ (zab_ (i:=3) zaT_.nd rfl (by first | exact Or.inl rfl | exact Or.inr rfl) (zs_ G_sense_of (hr.mono (j:=2) (by decide)) (zc_ (za_ 1) zj_))) (zd_ (zad_ (zu_ (ziC_ hr.u60) (za_ 2) (za_ 3)) (zi_ (zR_ zb5_)) zD_) (zd_ (zad_ (zu_ zer_ (za_ 2) zb5_) (zi_ (zR_ (zba_ (zc_ (zs_ G_card_with (hr.mono (j:=1) (by decide)) (zc_ (zaV_ ix_M (za_ 3) zh_ (fun _ _=>rfl)) (zc_ (zf4_ C_ONE_MARK) zj_))) zj_)))) zD_) (zd_ (zad_ (zu_ zer_ (za_ 3) zb5_) (zi_ (zR_ (zba_ (zc_ (zs_ G_card_with (hr.mono (j:=1) (by decide)) (zc_ (zaV_ ix_M (za_ 2) zh_ (fun _ _=>rfl)) (zc_ (zf4_ C_ONE_MARK) zj_))) zj_)))) zD_) (zd_ (zab_ (i:=4) zaT_.nd rfl (by first | exact Or.inl rfl | exact Or.inr rfl) (zs_ G_parting_of_picks (hr.mono (j:=3) (by decide)) (zc_ (zaV_ ix_M (za_ 2) zh_ (fun _ _=>rfl)) (zc_ (zaV_ ix_M (za_ 3) zh_ (fun _ _=>rfl)) zj_)))) (zd_ (zad_ (zu_ zer_ (za_ 4) zb5_) (zi_ (zab_ (i:=4) zaT_.nd rfl (by first | exact Or.inl rfl | exact Or.inr rfl) (zs_ G_parting_of_orders (hr.mono (j:=3) (by decide)) (zc_ (zaV_ ix_M (za_ 2) zh_ (fun _ _=>rfl)) (zc_ (zaV_ ix_M (za_ 2) zh_ (fun _ _=>rfl)) (zc_ (zaV_ ix_M (za_ 3) zh_ (fun _ _=>rfl)) zj_)))))) zD_) (zi_ (zR_ (za_ 4))))))))))
theorem zeT_ (G_sense_of:Gd P w K mg base CX0 2 "sense_of" ["row"] (zah_ K)) (G_card_with:Gd P w K mg base CX0 1 "card_with" Qn17 (zt_ K)) (G_parting_of_picks:Gd P w K mg base CX0 3 "parting_of_picks" Qn14 (zr_ K)) (G_parting_of_orders:Gd P w K mg base CX0 3 "parting_of_orders" Qn3 (zm_ K)) (C_ONE_MARK:Gc mg "ONE_MARK" (tx [48,48,48,49])) {f:Addr}{fd:FuncData}(F:Fun K "parting_of" "parting_of" z7_ f fd) (len:∀ vs H Q E,zL_ K vs H Q E→vs.length=2)
  (rd:∀ vs H Q E,zL_ K vs H Q E→za9_ K { nx:=fun _ H'=>Q .non H',rt:=Q } (start Qn13 vs) H):FnOk P w K mg base CX0 4 f fd ["row", "other"] (zL_ K):=by
 refine F.ok zaT_ len (fun cdv A outer s H vs Q E hr h=>⟨_,zeP_ G_sense_of G_card_with G_parting_of_picks G_parting_of_orders C_ONE_MARK hr,rd vs H Q E h⟩)
theorem zbE_:FnScope Qn12 ["_law_row"] (defScope zam_):=⟨rfl,rfl,rfl,by decide +kernel,rfl,by decide +kernel,by decide +kernel⟩
theorem zfi_  {cdv:Value}{A:Around}{outer:List Env}{s:Shared}{H:Hp}{E:XK}{f:Addr}(hr:Room 0 (A.deeper (envOfC "_law_sense" (defScope zam_) s.heap.objs.size f cdv))) :
  (PSs (cxOf CX0 P w K mg base Qn12 "_law_sense" (defScope zam_) f cdv A outer s H E).nox (defBody zam_) (zbt_ K)) := 
 (zd_ (zab_ (i:=1) zbE_.nd rfl (by first | exact Or.inl rfl | exact Or.inr rfl) zgN_) (zd_ (zab_ (i:=2) zbE_.nd rfl (by first | exact Or.inl rfl | exact Or.inr rfl) (zba_ zj_)) (zd_ (zds_ PassesOwn.never rfl (zdB_ (zmx_ (za_ 0) (po_M (zmw_ zh_)))) (zbg_ (i:=3) zbE_.nd rfl (by first | exact Or.inl rfl | exact Or.inr rfl)) (zi_ (zad_ (zu_ (zaY_ hr.u60) (zaV_ ix_M (za_ 3) zh_ (fun _ _=>rfl)) (zck_ (l:=[112,105,99,107]))) (zd_ (zad_ (PW.pt (zci_ (zkh_ hr.u60 (zaV_ ix_M (za_ 3) zh_ (fun _ _=>rfl)) (za_ 1)) (zdl_ (zu_ (ze6_ hr.u60) (zeY_ hr.u60 (za_ 1) (zaV_ ix_M (za_ 3) zh_ (fun _ _=>rfl))) (zaV_ ix_M (za_ 3) zh_ (fun _ _=>rfl)))))) (zi_ (zR_ zb5_)) zD_) (zi_ (zdm_ hr.u60 (za_ 1) (zaV_ ix_M (za_ 3) zh_ (fun _ _=>rfl)) (zaV_ ix_M (za_ 3) zh_ (fun _ _=>rfl))))) (zi_ (zad_ (zu_ zcN_ (zaV_ ix_M (za_ 3) zh_ (fun _ _=>rfl)) (za_ 2)) (zi_ (zeo_ (zlt_ PySem.F.plainAttrs_list PySem.F.slot_list_append PySem.F.type_list_append zcQ_ (za_ 2) (zc_ (zaV_ ix_M (za_ 3) zh_ (fun _ _=>rfl)) zj_)))) zD_))))) (zi_ (zR_ (zew_ (zc_ (za_ 1) (zc_ (zi3_ (cl:=_) (lv:=["_law_column"]) (fr:=[("_law_picks",1)]) rfl ⟨rfl,by decide +kernel,rfl,by decide +kernel,(zfB_ (by refine ⟨rfl,by decide +kernel,?_,?_⟩<;>first | exact Or.inl rfl | exact Or.inr rfl) zjL_)⟩ (zdB_ (za_ 2)) (fun _ _ _ _=>(zbg_ (i:=0) (show List.Nodup (["_law_column", "_law_picks"]:List Str) from by decide +kernel) rfl (Or.inl rfl))) (fun _ _ _ _=>(ziM_ (zcU_ hr.u60 (za_ 0) (za_ 1)))) (fun _ _ _ _=>(za_ 0))) zj_))))))))
theorem zfj_  {f:Addr}{fd:FuncData}(F:Fun K "_law_sense" "_law_sense" zam_ f fd) (len:∀ vs H Q E,z2_ K vs H Q E→vs.length=1)
  (rd:∀ vs H Q E,z2_ K vs H Q E→zbt_ K { nx:=fun _ H'=>Q .non H',rt:=Q } (start Qn12 vs) H):FnOk P w K mg base CX0 1 f fd ["_law_row"] (z2_ K):=by
 refine F.ok zbE_ len (fun cdv A outer s H vs Q E hr h=>⟨_,zfi_  hr,rd vs H Q E h⟩)
theorem za5_:FnScope Qn15 ["_law_found"] (defScope zI_):=⟨rfl,rfl,rfl,by decide +kernel,rfl,by decide +kernel,by decide +kernel⟩
theorem zdk_ (B_isinstance:Gb mg "isinstance") (B_list:Gb mg "list") (B_len:Gb mg "len") (B_str:Gb mg "str") {cdv:Value}{A:Around}{outer:List Env}{s:Shared}{H:Hp}{E:XK}{f:Addr}(hr:Room 0 (A.deeper (envOfC "_law_are_cards" (defScope zI_) s.heap.objs.size f cdv))) :
  (PSs (cxOf CX0 P w K mg base Qn15 "_law_are_cards" (defScope zI_) f cdv A outer s H E).nox (defBody zI_) (zar_ K)) := 
 (zd_ (zad_ (PW.pt (zhU_ (zhE_ (zdL_ (zem_ zhG_ B_isinstance (zc_ (za_ 0) (zc_ (pe_ty "list" B_list) zj_))))) (zhU_ (zu_ (zhn_ hr.u60) (zem_ zaj_ B_len (zc_ (za_ 0) zj_)) zh_) (zjj_ (zu_ zkC_ (zem_ zaj_ B_len (zc_ (za_ 0) zj_)) zh_))))) (zi_ (zR_ zj4_)) zD_) (zd_ (zds_ PassesOwn.never rfl (zdB_ (za_ 0)) (zbg_ (i:=1) za5_.nd rfl (by first | exact Or.inl rfl | exact Or.inr rfl)) (zd_ (zad_ (PW.pt (zhU_ (zhE_ (zdL_ (zem_ zhG_ B_isinstance (zc_ (za_ 1) (zc_ (pe_ty "str" B_str) zj_))))) (zjj_ (zu_ (ze6_ hr.u60) (zem_ zaj_ B_len (zc_ (za_ 1) zj_)) zh_)))) (zi_ (zR_ zj4_)) zD_) (zi_ (zds_ PassesOwn.never rfl (zdB_ (za_ 1)) (zbg_ (i:=2) za5_.nd rfl (by first | exact Or.inl rfl | exact Or.inr rfl)) (zi_ (zad_ (zu_ zcN_ (za_ 2) (zck_ (l:=SG))) (zi_ (zR_ zj4_)) zD_)))))) (zi_ (zR_ (zmm_ (zdS_ (zaY_ hr.u60) (zem_ zaj_ B_len (zc_ (za_ 0) zj_)) zh_) (zkV_ (zdS_ (ze6_ hr.u60) (zF_ sl_M (zaV_ ix_M (za_ 0) zh_ (fun _ _=>rfl)) (po_M zh_) zae_) (zF_ sl_M (zaV_ ix_M (za_ 0) zh_ (fun _ _=>rfl)) (po_M zh_) zae_))))))))
theorem zcX_ (B_isinstance:Gb mg "isinstance") (B_list:Gb mg "list") (B_len:Gb mg "len") (B_str:Gb mg "str") {f:Addr}{fd:FuncData}(F:Fun K "_law_are_cards" "_law_are_cards" zI_ f fd) (len:∀ vs H Q E,zC_ K vs H Q E→vs.length=1)
  (rd:∀ vs H Q E,zC_ K vs H Q E→zar_ K { nx:=fun _ H'=>Q .non H',rt:=Q } (start Qn15 vs) H):FnOk P w K mg base CX0 1 f fd ["_law_found"] (zC_ K):=by
 refine F.ok za5_ len (fun cdv A outer s H vs Q E hr h=>⟨_,zdk_ B_isinstance B_list B_len B_str hr,rd vs H Q E h⟩)
theorem za2_:FnScope Qn5 ["_law_deck", "_law_one"] (defScope zaE_):=⟨rfl,rfl,rfl,by decide +kernel,rfl,by decide +kernel,by decide +kernel⟩
theorem zgf_ (B_len:Gb mg "len") {cdv:Value}{A:Around}{outer:List Env}{s:Shared}{H:Hp}{E:XK}{f:Addr}(hr:Room 0 (A.deeper (envOfC "_law_done" (defScope zaE_) s.heap.objs.size f cdv))) :
  (PSs (cxOf CX0 P w K mg base Qn5 "_law_done" (defScope zaE_) f cdv A outer s H E).nox (defBody zaE_) (zbM_ K)) := 
 (zd_ (zab_ (i:=2) za2_.nd rfl (by first | exact Or.inl rfl | exact Or.inr rfl) (zay_ zfR_ (zaV_ ix_M (za_ 1) zh_ (fun _ _=>rfl)) zh_)) (zd_ (zad_ (zu_ (zaY_ hr.u60) (zaV_ ix_M (za_ 1) zh_ (fun _ _=>rfl)) (zck_ (l:=[112,105,99,107]))) (zi_ (zR_ (zi3_ (cl:=_) (lv:=["_law_card"]) (fr:=[("_law_at",2),("_law_one",1)]) rfl ⟨rfl,by decide +kernel,rfl,by decide +kernel,(zfB_ (by refine ⟨rfl,by decide +kernel,?_,?_⟩<;>first | exact Or.inl rfl | exact Or.inr rfl) (zfB_ (by refine ⟨rfl,by decide +kernel,?_,?_⟩<;>first | exact Or.inl rfl | exact Or.inr rfl) zjL_))⟩ (zdB_ (za_ 0)) (fun _ _ _ _=>(zbg_ (i:=0) (show List.Nodup (["_law_card", "_law_at", "_law_one"]:List Str) from by decide +kernel) rfl (Or.inl rfl))) (fun _ _ _ _=>(ziM_ (zu_ (zaY_ hr.u60) (zaV_ ix_M (za_ 0) (za_ 1) (fun _ _=>rfl)) (zaV_ ix_M (za_ 2) zh_ (fun _ _=>rfl))))) (fun _ _ _ _=>(za_ 0))))) zD_) (zd_ (zab_ (i:=3) za2_.nd rfl (by first | exact Or.inl rfl | exact Or.inr rfl) (zba_ zj_)) (zd_ (zds_ PassesOwn.never rfl (zdB_ (za_ 0)) (zbg_ (i:=4) za2_.nd rfl (by first | exact Or.inl rfl | exact Or.inr rfl)) (zd_ (zab_ (i:=5) za2_.nd rfl (by first | exact Or.inl rfl | exact Or.inr rfl) (zem_ zaj_ B_len (zc_ (za_ 3) zj_))) (zd_ (zgZ_ PassesOwn.never (PW.pt (zci_ (zu_ zkC_ (za_ 5) zh_) (zdl_ (zu_ (zhn_ hr.u60) (zaV_ ix_M (za_ 4) (za_ 2) (fun _ _=>rfl)) (zaV_ ix_M (zaV_ ix_M (za_ 3) (zay_ zfR_ (za_ 5) zh_) (fun _ _=>rfl)) (za_ 2) (fun _ _=>rfl)))))) (zi_ (zab_ (i:=5) za2_.nd rfl (by first | exact Or.inl rfl | exact Or.inr rfl) (zay_ zfR_ (za_ 5) zh_)))) (zi_ (zeo_ (zlt_ PySem.F.plainAttrs_list PySem.F.slot_list_insert PySem.F.type_list_insert zib_ (za_ 3) (zc_ (za_ 5) (zc_ (za_ 4) zj_)))))))) (zi_ (zR_ (za_ 3)))))))
theorem zf9_ (B_len:Gb mg "len") {f:Addr}{fd:FuncData}(F:Fun K "_law_done" "_law_done" zaE_ f fd) (len:∀ vs H Q E,zal_ K vs H Q E→vs.length=2)
  (rd:∀ vs H Q E,zal_ K vs H Q E→zbM_ K { nx:=fun _ H'=>Q .non H',rt:=Q } (start Qn5 vs) H):FnOk P w K mg base CX0 1 f fd ["_law_deck", "_law_one"] (zal_ K):=by
 refine F.ok za2_ len (fun cdv A outer s H vs Q E hr h=>⟨_,zgf_ B_len hr,rd vs H Q E h⟩)
theorem zaL_:FnScope Qn11 ["_law_deck", "_law_row"] (defScope zS_):=⟨rfl,rfl,rfl,by decide +kernel,rfl,by decide +kernel,by decide +kernel⟩
theorem zdr_ (G_law_done:Gd P w K mg base CX0 1 "_law_done" ["_law_deck", "_law_one"] (zal_ K)) (B_list:Gb mg "list") {cdv:Value}{A:Around}{outer:List Env}{s:Shared}{H:Hp}{E:XK}{f:Addr}(hr:Room 1 (A.deeper (envOfC "_law_all_done" (defScope zS_) s.heap.objs.size f cdv))) :
  (PSs (cxOf CX0 P w K mg base Qn11 "_law_all_done" (defScope zS_) f cdv A outer s H E).nox (defBody zS_) (zaD_ K)) := 
 (zd_ (zab_ (i:=2) zaL_.nd rfl (by first | exact Or.inl rfl | exact Or.inr rfl) (ziU_ "list" (zbK_ rfl) B_list (zc_ (za_ 0) zj_))) (zd_ (zds_ PassesOwn.never rfl (zdB_ (za_ 1)) (zbg_ (i:=3) zaL_.nd rfl (by first | exact Or.inl rfl | exact Or.inr rfl)) (zi_ (zab_ (i:=2) zaL_.nd rfl (by first | exact Or.inl rfl | exact Or.inr rfl) (zs_ G_law_done (hr.mono (j:=1) (by decide)) (zc_ (za_ 2) (zc_ (za_ 3) zj_)))))) (zi_ (zR_ (za_ 2)))))
theorem zdy_ (G_law_done:Gd P w K mg base CX0 1 "_law_done" ["_law_deck", "_law_one"] (zal_ K)) (B_list:Gb mg "list") {f:Addr}{fd:FuncData}(F:Fun K "_law_all_done" "_law_all_done" zS_ f fd) (len:∀ vs H Q E,zA_ K vs H Q E→vs.length=2)
  (rd:∀ vs H Q E,zA_ K vs H Q E→zaD_ K { nx:=fun _ H'=>Q .non H',rt:=Q } (start Qn11 vs) H):FnOk P w K mg base CX0 2 f fd ["_law_deck", "_law_row"] (zA_ K):=by
 refine F.ok zaL_ len (fun cdv A outer s H vs Q E hr h=>⟨_,zdr_ G_law_done B_list hr,rd vs H Q E h⟩)
theorem zeM_:FnScope Qn2 Qn2 (defScope z9_):=⟨rfl,rfl,rfl,by decide +kernel,rfl,by decide +kernel,by decide +kernel⟩
theorem zeJ_ (G_law_sense:Gd P w K mg base CX0 1 "_law_sense" ["_law_row"] (z2_ K)) (G_law_are_cards:Gd P w K mg base CX0 1 "_law_are_cards" ["_law_found"] (zC_ K)) (G_law_all_done:Gd P w K mg base CX0 2 "_law_all_done" ["_law_deck", "_law_row"] (zA_ K)) {cdv:Value}{A:Around}{outer:List Env}{s:Shared}{H:Hp}{E:XK}{f:Addr}(hr:Room 2 (A.deeper (envOfC "_law_parted" (defScope z9_) s.heap.objs.size f cdv))) :
  (PSs (cxOf CX0 P w K mg base Qn2 "_law_parted" (defScope z9_) f cdv A outer s H E).nox (defBody z9_) (za3_ K)) := 
 (zd_ (zad_ (zu_ (ziC_ hr.u60) (zs_ G_law_sense (hr.mono (j:=1) (by decide)) (zc_ (za_ 1) zj_)) (zs_ G_law_sense (hr.mono (j:=1) (by decide)) (zc_ (za_ 2) zj_))) (zi_ (zR_ (zdS_ zer_ (za_ 0) zb5_))) zD_) (zd_ (zad_ (zhE_ (zdL_ (zs_ G_law_are_cards (hr.mono (j:=1) (by decide)) (zc_ (za_ 0) zj_)))) (zi_ (zR_ zj4_)) zD_) (zi_ (zR_ (zdS_ (ze6_ hr.u60) (zs_ G_law_all_done (hr.mono (j:=2) (by decide)) (zc_ (za_ 0) (zc_ (za_ 1) zj_))) (zs_ G_law_all_done (hr.mono (j:=2) (by decide)) (zc_ (za_ 0) (zc_ (za_ 2) zj_))))))))
theorem zeN_ (G_law_sense:Gd P w K mg base CX0 1 "_law_sense" ["_law_row"] (z2_ K)) (G_law_are_cards:Gd P w K mg base CX0 1 "_law_are_cards" ["_law_found"] (zC_ K)) (G_law_all_done:Gd P w K mg base CX0 2 "_law_all_done" ["_law_deck", "_law_row"] (zA_ K)) {f:Addr}{fd:FuncData}(F:Fun K "_law_parted" "_law_parted" z9_ f fd) (len:∀ vs H Q E,zM_ K vs H Q E→vs.length=3)
  (rd:∀ vs H Q E,zM_ K vs H Q E→za3_ K { nx:=fun _ H'=>Q .non H',rt:=Q } (start Qn2 vs) H):FnOk P w K mg base CX0 3 f fd Qn2 (zM_ K):=by
 refine F.ok zeM_ len (fun cdv A outer s H vs Q E hr h=>⟨_,zeJ_ G_law_sense G_law_are_cards G_law_all_done hr,rd vs H Q E h⟩)
theorem zcK_:FnScope Qn0 ["_law_script"] (defScope zgs_):=⟨rfl,rfl,rfl,by decide +kernel,rfl,by decide +kernel,by decide +kernel⟩
theorem zmz_ (G_law_cell_at:Gd P w K mg base CX0 1 "_law_cell_at" Qn9 (zv_ K)) (G_law_pass:Gd P w K mg base CX0 1 "_law_pass" Qn4 (zag_ K)) (G_law_changed:Gd P w K mg base CX0 1 "_law_changed" Qn8 (zV_ K)) (G_parting_of:Gd P w K mg base CX0 4 "parting_of" ["row", "other"] (zL_ K)) (G_law_parted:Gd P w K mg base CX0 3 "_law_parted" Qn2 (zM_ K)) (B_list:Gb mg "list") {cdv:Value}{A:Around}{outer:List Env}{s:Shared}{H:Hp}{E:XK}{f:Addr}(hr:Room 4 (A.deeper (envOfC "law" (defScope zgs_) s.heap.objs.size f cdv))) :
  (PSs (cxOf CX0 P w K mg base Qn0 "law" (defScope zgs_) f cdv A outer s H E).nox (defBody zgs_) (zll_ K)) := 
 (zd_ (zab_ (i:=1) zcK_.nd rfl (by first | exact Or.inl rfl | exact Or.inr rfl) (zck_ (l:=SG))) (zd_ (zab_ (i:=2) zcK_.nd rfl (by first | exact Or.inl rfl | exact Or.inr rfl) (zs_ G_law_cell_at (hr.mono (j:=1) (by decide)) (zc_ (za_ 0) (zc_ zh_ zj_)))) (zd_ (zab_ (i:=3) zcK_.nd rfl (by first | exact Or.inl rfl | exact Or.inr rfl) (zay_ zbF_ (zs_ G_law_cell_at (hr.mono (j:=1) (by decide)) (zc_ (za_ 0) (zc_ zh_ zj_))) zh_)) (zd_ (zab_ (i:=4) zcK_.nd rfl (by first | exact Or.inl rfl | exact Or.inr rfl) (zay_ zG_ (zF_ sl_M (za_ 1) (po_M (za_ 3)) zae_) (zF_ sl_M (za_ 1) zae_ (po_M (za_ 3))))) (zd_ (zab_ (i:=5) zcK_.nd rfl (by first | exact Or.inl rfl | exact Or.inr rfl) (zaV_ ix_M (zba_ (zc_ zh_ (zc_ zh_ (zc_ zh_ (zc_ zh_ zj_))))) (zay_ zbF_ (za_ 2) zh_) (fun _ _=>rfl))) (zd_ (zab_ (i:=6) zcK_.nd rfl (by first | exact Or.inl rfl | exact Or.inr rfl) (zba_ zj_)) (zd_ (zds_ PassesOwn.never rfl (zdB_ (zF_ sl_M (za_ 0) (po_M zh_) (po_M zh_))) (zbg_ (i:=7) zcK_.nd rfl (by first | exact Or.inl rfl | exact Or.inr rfl)) (zi_ (zeo_ (zlt_ PySem.F.plainAttrs_list PySem.F.slot_list_append PySem.F.type_list_append zcQ_ (za_ 6) (zc_ (zs_ G_law_pass (hr.mono (j:=1) (by decide)) (zc_ (za_ 7) (zc_ (za_ 4) (zc_ (za_ 3) (zc_ (za_ 5) (zc_ (zaV_ ix_M (zba_ (zc_ zh_ (zc_ zh_ (zc_ zh_ zj_)))) (zay_ zbF_ (zay_ zeK_ (za_ 2) zh_) zh_) (fun _ _=>rfl)) zj_)))))) zj_))))) (zd_ (zab_ (i:=8) zcK_.nd rfl (by first | exact Or.inl rfl | exact Or.inr rfl) (zs_ G_law_pass (hr.mono (j:=1) (by decide)) (zc_ (zay_ zeK_ (zs_ G_law_cell_at (hr.mono (j:=1) (by decide)) (zc_ (za_ 0) (zc_ zh_ zj_))) zh_) (zc_ (za_ 4) (zc_ (za_ 3) (zc_ (zay_ zG_ (za_ 5) zh_) (zc_ zh_ zj_))))))) (zd_ (zab_ (i:=9) zcK_.nd rfl (by first | exact Or.inl rfl | exact Or.inr rfl) (zs_ G_law_changed (hr.mono (j:=1) (by decide)) (zc_ (za_ 6) (zc_ (zay_ zbF_ (zs_ G_law_cell_at (hr.mono (j:=1) (by decide)) (zc_ (za_ 0) (zc_ zh_ zj_))) zh_) (zc_ (zs_ G_law_cell_at (hr.mono (j:=1) (by decide)) (zc_ (za_ 0) (zc_ zh_ zj_))) (zc_ (za_ 8) zj_)))))) (zd_ (zab_ (i:=10) zcK_.nd rfl (by first | exact Or.inl rfl | exact Or.inr rfl) (zba_ (zc_ (ziU_ "list" (zbK_ rfl) B_list (zc_ (za_ 6) zj_)) (zc_ (ziU_ "list" (zbK_ rfl) B_list (zc_ (za_ 9) zj_)) zj_)))) (zd_ (zab_ (i:=11) zcK_.nd rfl (by first | exact Or.inl rfl | exact Or.inr rfl) (zs_ G_parting_of (hr.mono (j:=4) (by decide)) (zc_ (zaV_ ix_M (za_ 10) zh_ (fun _ _=>rfl)) (zc_ (zaV_ ix_M (za_ 10) zh_ (fun _ _=>rfl)) zj_)))) (zd_ (zad_ (PW.pt (zhU_ (zhE_ (zdL_ (zs_ G_law_parted (hr.mono (j:=3) (by decide)) (zc_ (za_ 11) (zc_ (za_ 6) (zc_ (za_ 9) zj_)))))) (zjj_ (zu_ (ze6_ hr.u60) (za_ 10) (zba_ (zc_ (za_ 6) (zc_ (za_ 9) zj_))))))) (zi_ (zR_ zj4_)) zD_) (zd_ (zad_ (zhE_ (zdL_ (zs_ G_law_parted (hr.mono (j:=3) (by decide)) (zc_ (zs_ G_parting_of (hr.mono (j:=4) (by decide)) (zc_ (za_ 9) (zc_ (za_ 6) zj_))) (zc_ (za_ 9) (zc_ (za_ 6) zj_)))))) (zi_ (zR_ zj4_)) zD_) (zi_ (zR_ (zld_ (zdS_ zer_ (zs_ G_parting_of (hr.mono (j:=4) (by decide)) (zc_ (za_ 6) (zc_ (ziU_ "list" (zbK_ rfl) B_list (zc_ (za_ 6) zj_)) zj_))) zb5_) (zkV_ (zs_ G_law_parted (hr.mono (j:=3) (by decide)) (zc_ (za_ 11) (zc_ (za_ 6) (zc_ (za_ 9) zj_)))))))))))))))))))))
theorem zmj_ (G_law_cell_at:Gd P w K mg base CX0 1 "_law_cell_at" Qn9 (zv_ K)) (G_law_pass:Gd P w K mg base CX0 1 "_law_pass" Qn4 (zag_ K)) (G_law_changed:Gd P w K mg base CX0 1 "_law_changed" Qn8 (zV_ K)) (G_parting_of:Gd P w K mg base CX0 4 "parting_of" ["row", "other"] (zL_ K)) (G_law_parted:Gd P w K mg base CX0 3 "_law_parted" Qn2 (zM_ K)) (B_list:Gb mg "list") {f:Addr}{fd:FuncData}(F:Fun K "law" "law" zgs_ f fd) (len:∀ vs H Q E,zeE_ K vs H Q E→vs.length=1)
  (rd:∀ vs H Q E,zeE_ K vs H Q E→zll_ K { nx:=fun _ H'=>Q .non H',rt:=Q } (start Qn0 vs) H):FnOk P w K mg base CX0 5 f fd ["_law_script"] (zeE_ K):=by
 refine F.ok zcK_ len (fun cdv A outer s H vs Q E hr h=>⟨_,zmz_ G_law_cell_at G_law_pass G_law_changed G_parting_of G_law_parted B_list hr,rd vs H Q E h⟩)
end
end K17
namespace K17
open PySem PySem.Spec PyProof.Rows L2
theorem zdV_ {K:Fgg}{E:XK}(c:((List Int)×Int)):EvS K (zaQ_ K) E [(Sl.fz (tySc K) c.1),(Sl.fz tyInt c.2)] (zbi_ c.1 c.2) (fun _:Unit=>[]) (fun _:Unit=>[]) (owF tyInt) :=
 (za8_ (LS:=(fun _:Unit=>[(Sl.fz (tySc K) c.1),(Sl.fz tyInt c.2)])) (s_if (zE_ (zJ_ zfF_ (zb_ 1 rfl) (zff_ zjv_ (ze_ (zb_ 0 rfl))))) (zbX_ (zbu_ z3_) (EvF.ow (zJ_ zkb_ (zb_ 0 rfl) (zb_ 1 rfl)))) (zl_ (.same (.same .nil)))) fun _=>(at_ [(Sl.fz (tySc K) c.1),(Sl.fz tyInt c.2)] (zbX_ (zbu_ z3_) (EvF.ow (zn_ 0)))))
theorem zeb_ {K:Fgg}:RD_law_cell_at K:=zel_ (K:=K) (N:=Qn9) (C:=(csCons (tySc K) (csLast tyInt))) (O:=(owF tyInt)) (t:=fun E=>zaQ_ K) (ss:=fun c=>[(Sl.fz (tySc K) c.1),(Sl.fz tyInt c.2)]) (f:=fun c=>zbi_ c.1 c.2) 2 0 (zg_ zf_) rfl (zX_ zac_) fun c E=>zdV_ c
theorem zgq_ {K:Fgg}{E:XK}(c:(Int×((List Nat)×(Int×(Int×Int))))):EvS K (zbQ_ K) E [(Sl.fz tyInt c.1),(Sl.fz tyStr c.2.1),(Sl.fz tyInt c.2.2.1),(Sl.fz tyInt c.2.2.2.1),(Sl.fz tyInt c.2.2.2.2),Sl.dead,Sl.dead,Sl.dead] (zce_ c.1 c.2.1 c.2.2.1 c.2.2.2.1 c.2.2.2.2) (fun _:Unit=>[]) (fun _:Unit=>[]) (owF tyPass) :=
 (zdM_ (i:=5) rfl z4_ (zbm_ SG) fun signs_1=>(at_ [(Sl.fz tyInt c.1),(Sl.fz tyStr c.2.1),(Sl.fz tyInt c.2.2.1),(Sl.fz tyInt c.2.2.2.1),(Sl.fz tyInt c.2.2.2.2),(Sl.fz tyStr signs_1),Sl.dead,Sl.dead] (zdM_ (i:=6) rfl z3_ (zJ_ zaW_ (zJ_ zbG_ (zb_ 0 rfl) (zn_ 2147483647)) (zn_ 69621)) fun number_2=>(at_ [(Sl.fz tyInt c.1),(Sl.fz tyStr c.2.1),(Sl.fz tyInt c.2.2.1),(Sl.fz tyInt c.2.2.2.1),(Sl.fz tyInt c.2.2.2.2),(Sl.fz tyStr signs_1),(Sl.fz tyInt number_2),Sl.dead] (zdM_ (i:=6) rfl z3_ (zJ_ zbG_ (zJ_ zjA_ (zb_ 6 rfl) (zb_ 6 rfl)) (zn_ 2147483629)) fun number_7=>(at_ [(Sl.fz tyInt c.1),(Sl.fz tyStr c.2.1),(Sl.fz tyInt c.2.2.1),(Sl.fz tyInt c.2.2.2.1),(Sl.fz tyInt c.2.2.2.2),(Sl.fz tyStr signs_1),(Sl.fz tyInt number_7),Sl.dead] (zdM_ (i:=7) rfl z3_ (zJ_ zaW_ (zn_ 1) (zJ_ zbG_ (zJ_ zaW_ (zb_ 2 rfl) (zJ_ zbG_ (zJ_ zcR_ (zb_ 6 rfl) (zn_ 8)) (zb_ 3 rfl))) (zn_ 36))) fun column_12=>(at_ [(Sl.fz tyInt c.1),(Sl.fz tyStr c.2.1),(Sl.fz tyInt c.2.2.1),(Sl.fz tyInt c.2.2.2.1),(Sl.fz tyInt c.2.2.2.2),(Sl.fz tyStr signs_1),(Sl.fz tyInt number_7),(Sl.fz tyInt column_12)] (za8_ (LS:=(fun _:Unit=>[(Sl.fz tyInt c.1),(Sl.fz tyStr c.2.1),(Sl.fz tyInt c.2.2.1),(Sl.fz tyInt c.2.2.2.1),(Sl.fz tyInt c.2.2.2.2),(Sl.fz tyStr signs_1),(Sl.fz tyInt number_7),(Sl.fz tyInt column_12)])) (s_if (zE_ (zJ_ zlO_ (zJ_ zbG_ (zb_ 6 rfl) (zn_ 8)) (zb_ 4 rfl))) (zbX_ (zbu_ zaa_) (EvF.ow (zlv_ (zb_ 7 rfl)))) (zl_ (S4 (S4 .nil)))) fun _=>(at_ [(Sl.fz tyInt c.1),(Sl.fz tyStr c.2.1),(Sl.fz tyInt c.2.2.1),(Sl.fz tyInt c.2.2.2.1),(Sl.fz tyInt c.2.2.2.2),(Sl.fz tyStr signs_1),(Sl.fz tyInt number_7),(Sl.fz tyInt column_12)] (za8_ (LS:=(fun _:Unit=>[(Sl.fz tyInt c.1),(Sl.fz tyStr c.2.1),(Sl.fz tyInt c.2.2.1),(Sl.fz tyInt c.2.2.2.1),(Sl.fz tyInt c.2.2.2.2),(Sl.fz tyStr signs_1),(Sl.fz tyInt number_7),(Sl.fz tyInt column_12)])) (s_if (zE_ (zJ_ zb3_ (zJ_ zbG_ (zJ_ zcR_ (zb_ 6 rfl) (zn_ 512)) (zn_ 7)) (zn_ 1))) (zbX_ (zbu_ zaa_) (EvF.ow (zfX_ (zb_ 7 rfl) (zJ_ zhF_ (zb_ 5 rfl) (zJ_ zbG_ (zJ_ zcR_ (zb_ 6 rfl) (zn_ 4096)) (zn_ 37)))))) (zl_ (S4 (S4 .nil)))) fun _=>(at_ [(Sl.fz tyInt c.1),(Sl.fz tyStr c.2.1),(Sl.fz tyInt c.2.2.1),(Sl.fz tyInt c.2.2.2.1),(Sl.fz tyInt c.2.2.2.2),(Sl.fz tyStr signs_1),(Sl.fz tyInt number_7),(Sl.fz tyInt column_12)] (zbX_ (zbu_ zaa_) (EvF.ow (zfX_ (zb_ 7 rfl) (zJ_ zhF_ (zb_ 1 rfl) (zJ_ zfS_ (zb_ 7 rfl) (zn_ 1))))))))))))))))))
theorem zgo_ {K:Fgg}:RD_law_pass K:=zel_ (K:=K) (N:=Qn1) (C:=(csCons tyInt (csCons tyStr (csCons tyInt (csCons tyInt (csLast tyInt)))))) (O:=(owF tyPass)) (t:=fun E=>zbQ_ K) (ss:=fun c=>[(Sl.fz tyInt c.1),(Sl.fz tyStr c.2.1),(Sl.fz tyInt c.2.2.1),(Sl.fz tyInt c.2.2.2.1),(Sl.fz tyInt c.2.2.2.2)]) (f:=fun c=>zce_ c.1 c.2.1 c.2.2.1 c.2.2.2.1 c.2.2.2.2) 5 3 (zg_ (zg_ (zg_ (zg_ zf_)))) rfl (zX_ (zX_ (zX_ (zX_ zac_)))) fun c E=>zgq_ c
theorem zei_ {K:Fgg}{E:XK}(c:((List Pas)×(Int×(Int×Pas)))):EvS K (zaS_ K) E [(Sl.fz (tyL tyPass) c.1),(Sl.fz tyInt c.2.1),(Sl.fz tyInt c.2.2.1),(Sl.fz tyPass c.2.2.2),Sl.dead] (zbe_ c.1 c.2.1 c.2.2.1 c.2.2.2) (fun _:Unit=>[]) (fun _:Unit=>[]) (owL tyPass) :=
 (za8_ (LS:=(fun _:Unit=>[(Sl.fz (tyL tyPass) c.1),(Sl.fz tyInt c.2.1),(Sl.fz tyInt c.2.2.1),(Sl.fz tyPass c.2.2.2),Sl.dead])) (s_if (zE_ (zJ_ (zjJ_ (zjI_ ze4_)) (zb_ 0 rfl) (EvO.fr (zeu_ tyPass)))) (zbX_ (zbl_ zaa_) (zb0_ zf_ zas_ (ze_ (zb_ 3 rfl)))) (zl_ (S4 (.same .nil)))) fun _=>(at_ [(Sl.fz (tyL tyPass) c.1),(Sl.fz tyInt c.2.1),(Sl.fz tyInt c.2.2.1),(Sl.fz tyPass c.2.2.2),Sl.dead] (zdM_ (i:=2) rfl z3_ (zJ_ zbG_ (zb_ 2 rfl) (zff_ zcg_ (ze_ (zb_ 0 rfl)))) fun at_7=>(at_ [(Sl.fz (tyL tyPass) c.1),(Sl.fz tyInt c.2.1),(Sl.fz tyInt at_7),(Sl.fz tyPass c.2.2.2),Sl.dead] (zdM_ (i:=4) rfl zaa_ (zJ_ zdA_ (zb_ 0 rfl) (zb_ 2 rfl)) fun old_11=>(at_ [(Sl.fz (tyL tyPass) c.1),(Sl.fz tyInt c.2.1),(Sl.fz tyInt at_7),(Sl.fz tyPass c.2.2.2),(Sl.fz tyPass old_11)] (za8_ (LS:=(fun _:Unit=>[(Sl.fz (tyL tyPass) c.1),(Sl.fz tyInt c.2.1),(Sl.fz tyInt at_7),(Sl.fz tyPass c.2.2.2),(Sl.fz tyPass old_11)])) (s_if (zE_ (zJ_ zb3_ (zb_ 1 rfl) (zn_ 1))) (zbX_ (zbl_ zaa_) (zbI_ zaJ_ (EvO.fr (zbk_ (zb_ 0 rfl) zcL_ (zcm_ (zb_ 2 rfl)))) (EvO.fr (zbk_ (zb_ 0 rfl) (zcm_ (zJ_ zaW_ (zb_ 2 rfl) (zn_ 1))) zcL_)))) (zl_ (S4 (.same .nil)))) fun _=>(at_ [(Sl.fz (tyL tyPass) c.1),(Sl.fz tyInt c.2.1),(Sl.fz tyInt at_7),(Sl.fz tyPass c.2.2.2),(Sl.fz tyPass old_11)] (za8_ (LS:=(fun _:Unit=>[(Sl.fz (tyL tyPass) c.1),(Sl.fz tyInt c.2.1),(Sl.fz tyInt at_7),(Sl.fz tyPass c.2.2.2),(Sl.fz tyPass old_11)])) (s_if (zE_ (zJ_ zb3_ (zb_ 1 rfl) (zn_ 2))) (zbX_ (zbl_ zaa_) (zbI_ zaJ_ (EvO.fr (zbI_ zaJ_ (EvO.fr (zbk_ (zb_ 0 rfl) zcL_ (zcm_ (zb_ 2 rfl)))) (EvO.fr (zb0_ zf_ zas_ (ze_ (zb_ 4 rfl)))))) (EvO.fr (zbk_ (zb_ 0 rfl) (zcm_ (zb_ 2 rfl)) zcL_)))) (zl_ (S4 (.same .nil)))) fun _=>(at_ [(Sl.fz (tyL tyPass) c.1),(Sl.fz tyInt c.2.1),(Sl.fz tyInt at_7),(Sl.fz tyPass c.2.2.2),(Sl.fz tyPass old_11)] (za8_ (LS:=(fun _:Unit=>[(Sl.fz (tyL tyPass) c.1),(Sl.fz tyInt c.2.1),(Sl.fz tyInt at_7),(Sl.fz tyPass c.2.2.2),(Sl.fz tyPass old_11)])) (s_if (zE_ (zJ_ zb3_ (zb_ 1 rfl) (zn_ 3))) (zbX_ (zbl_ zaa_) (zbI_ zaJ_ (EvO.fr (zbI_ zaJ_ (EvO.fr (zbI_ zaJ_ (EvO.fr (zbk_ (zb_ 0 rfl) zcL_ (zcm_ (zb_ 2 rfl)))) (EvO.fr (zbk_ (zb_ 0 rfl) (zcm_ (zJ_ zaW_ (zb_ 2 rfl) (zn_ 1))) (zcm_ (zJ_ zaW_ (zb_ 2 rfl) (zn_ 2))))))) (EvO.fr (zb0_ zf_ zas_ (ze_ (zb_ 4 rfl)))))) (EvO.fr (zbk_ (zb_ 0 rfl) (zcm_ (zJ_ zaW_ (zb_ 2 rfl) (zn_ 2))) zcL_)))) (zl_ (S4 (.same .nil)))) fun _=>(at_ [(Sl.fz (tyL tyPass) c.1),(Sl.fz tyInt c.2.1),(Sl.fz tyInt at_7),(Sl.fz tyPass c.2.2.2),(Sl.fz tyPass old_11)] (za8_ (LS:=(fun _:Unit=>[(Sl.fz (tyL tyPass) c.1),(Sl.fz tyInt c.2.1),(Sl.fz tyInt at_7),(Sl.fz tyPass c.2.2.2),(Sl.fz tyPass old_11)])) (s_if (zE_ (zJ_ zb3_ (zb_ 1 rfl) (zn_ 4))) (zbX_ (zbl_ zaa_) (zbI_ zaJ_ (EvO.fr (zbI_ zaJ_ (EvO.fr (zbk_ (zb_ 0 rfl) zcL_ (zcm_ (zb_ 2 rfl)))) (EvO.fr (zbk_ (zb_ 0 rfl) (zcm_ (zJ_ zaW_ (zb_ 2 rfl) (zn_ 1))) zcL_)))) (EvO.fr (zb0_ zf_ zas_ (ze_ (zb_ 4 rfl)))))) (zl_ (S4 (.same .nil)))) fun _=>(at_ [(Sl.fz (tyL tyPass) c.1),(Sl.fz tyInt c.2.1),(Sl.fz tyInt at_7),(Sl.fz tyPass c.2.2.2),(Sl.fz tyPass old_11)] (za8_ (LS:=(fun _:Unit=>[(Sl.fz (tyL tyPass) c.1),(Sl.fz tyInt c.2.1),(Sl.fz tyInt at_7),(Sl.fz tyPass c.2.2.2),(Sl.fz tyPass old_11)])) (s_if (zE_ (zJ_ zb3_ (zb_ 1 rfl) (zn_ 5))) (zbX_ (zbl_ zaa_) (zbI_ zaJ_ (EvO.fr (zbI_ zaJ_ (EvO.fr (zb0_ zf_ zas_ (ze_ (zb_ 4 rfl)))) (EvO.fr (zbk_ (zb_ 0 rfl) zcL_ (zcm_ (zb_ 2 rfl)))))) (EvO.fr (zbk_ (zb_ 0 rfl) (zcm_ (zJ_ zaW_ (zb_ 2 rfl) (zn_ 1))) zcL_)))) (zl_ (S4 (.same .nil)))) fun _=>(at_ [(Sl.fz (tyL tyPass) c.1),(Sl.fz tyInt c.2.1),(Sl.fz tyInt at_7),(Sl.fz tyPass c.2.2.2),(Sl.fz tyPass old_11)] (za8_ (LS:=(fun _:Unit=>[(Sl.fz (tyL tyPass) c.1),(Sl.fz tyInt c.2.1),(Sl.fz tyInt at_7),(Sl.fz tyPass c.2.2.2),(Sl.fz tyPass old_11)])) (s_if (zE_ (zJ_ zb3_ (zb_ 1 rfl) (zn_ 6))) (zbX_ (zbl_ zaa_) (zbI_ zaJ_ (EvO.fr (zbI_ zaJ_ (EvO.fr (zbk_ (zb_ 0 rfl) zcL_ (zcm_ (zb_ 2 rfl)))) (EvO.fr (zb0_ zf_ zas_ (ze_ (zJ_ zlq_ (zje_ (zg_ zf_) (zk_ (zc1_ (zb_ 4 rfl)) (ze_ (zaK_ (zb_ 3 rfl))))) (zjl_ (zb_ 4 rfl)))))))) (EvO.fr (zbk_ (zb_ 0 rfl) (zcm_ (zJ_ zaW_ (zb_ 2 rfl) (zn_ 1))) zcL_)))) (zl_ (S4 (.same .nil)))) fun _=>(at_ [(Sl.fz (tyL tyPass) c.1),(Sl.fz tyInt c.2.1),(Sl.fz tyInt at_7),(Sl.fz tyPass c.2.2.2),(Sl.fz tyPass old_11)] (za8_ (LS:=(fun _:Unit=>[(Sl.fz (tyL tyPass) c.1),(Sl.fz tyInt c.2.1),(Sl.fz tyInt at_7),(Sl.fz tyPass c.2.2.2),(Sl.fz tyPass old_11)])) (s_if (zd3_ (zE_ (zJ_ zb3_ (zb_ 1 rfl) (zn_ 7))) (zd3_ (zE_ (zJ_ zb3_ (zff_ zgU_ (ze_ (zb_ 4 rfl))) (zn_ 3))) (zE_ (zJ_ zb3_ (zff_ zgU_ (ze_ (zb_ 3 rfl))) (zn_ 3))))) (zbX_ (zbl_ zaa_) (zbI_ zaJ_ (EvO.fr (zbI_ zaJ_ (EvO.fr (zbk_ (zb_ 0 rfl) zcL_ (zcm_ (zb_ 2 rfl)))) (EvO.fr (zb0_ zf_ zas_ (ze_ (zfX_ (zaK_ (zb_ 4 rfl)) (zb2_ (zb_ 3 rfl)))))))) (EvO.fr (zbk_ (zb_ 0 rfl) (zcm_ (zJ_ zaW_ (zb_ 2 rfl) (zn_ 1))) zcL_)))) (zl_ (S4 (.same .nil)))) fun _=>(at_ [(Sl.fz (tyL tyPass) c.1),(Sl.fz tyInt c.2.1),(Sl.fz tyInt at_7),(Sl.fz tyPass c.2.2.2),(Sl.fz tyPass old_11)] (za8_ (LS:=(fun _:Unit=>[(Sl.fz (tyL tyPass) c.1),(Sl.fz tyInt c.2.1),(Sl.fz tyInt at_7),(Sl.fz tyPass c.2.2.2),(Sl.fz tyPass old_11)])) (s_if (zE_ (zJ_ zb3_ (zb_ 1 rfl) (zn_ 8))) (zbX_ (zbl_ zaa_) (zbI_ zaJ_ (EvO.fr (zbI_ zaJ_ (EvO.fr (zbk_ (zb_ 0 rfl) zcL_ (zcm_ (zb_ 2 rfl)))) (EvO.fr (zb0_ zf_ zas_ (ze_ (zb_ 3 rfl)))))) (EvO.fr (zbk_ (zb_ 0 rfl) (zcm_ (zb_ 2 rfl)) zcL_)))) (zl_ (S4 (.same .nil)))) fun _=>(at_ [(Sl.fz (tyL tyPass) c.1),(Sl.fz tyInt c.2.1),(Sl.fz tyInt at_7),(Sl.fz tyPass c.2.2.2),(Sl.fz tyPass old_11)] (za8_ (LS:=(fun _:Unit=>[(Sl.fz (tyL tyPass) c.1),(Sl.fz tyInt c.2.1),(Sl.fz tyInt at_7),(Sl.fz tyPass c.2.2.2),(Sl.fz tyPass old_11)])) (s_if (zd3_ (zE_ (zJ_ zb3_ (zb_ 1 rfl) (zn_ 9))) (zE_ (zJ_ zb3_ (zff_ zgU_ (ze_ (zb_ 3 rfl))) (zn_ 3)))) (zbX_ (zbl_ zaa_) (zbI_ zaJ_ (EvO.fr (zbI_ zaJ_ (EvO.fr (zbk_ (zb_ 0 rfl) zcL_ (zcm_ (zb_ 2 rfl)))) (EvO.fr (zb0_ zf_ zas_ (ze_ (zfX_ (zaK_ (zb_ 4 rfl)) (zb2_ (zb_ 3 rfl)))))))) (EvO.fr (zbk_ (zb_ 0 rfl) (zcm_ (zJ_ zaW_ (zb_ 2 rfl) (zn_ 1))) zcL_)))) (zl_ (S4 (.same .nil)))) fun _=>(at_ [(Sl.fz (tyL tyPass) c.1),(Sl.fz tyInt c.2.1),(Sl.fz tyInt at_7),(Sl.fz tyPass c.2.2.2),(Sl.fz tyPass old_11)] (zbX_ (zbl_ zaa_) (zdY_ zeC_ (ze_ (zb_ 0 rfl))))))))))))))))))))))))))))
theorem zd4_ {K:Fgg}:RD_law_changed K:=zel_ (K:=K) (N:=Qn7) (C:=(csCons (tyL tyPass) (csCons tyInt (csCons tyInt (csLast tyPass))))) (O:=(owL tyPass)) (t:=fun E=>zaS_ K) (ss:=fun c=>[(Sl.fz (tyL tyPass) c.1),(Sl.fz tyInt c.2.1),(Sl.fz tyInt c.2.2.1),(Sl.fz tyPass c.2.2.2)]) (f:=fun c=>zbe_ c.1 c.2.1 c.2.2.1 c.2.2.2) 4 1 (zg_ (zg_ (zg_ zf_))) rfl (zX_ (zX_ (zX_ zac_))) fun c E=>zei_ c
theorem zdJ_ {K:Fgg}{E:XK}(c:(List Pas)):EvS K (zaC_ K) E [(Sl.fz (tyL tyPass) c),Sl.dead,Sl.dead] (za0_ c) (fun _:Unit=>[]) (fun _:Unit=>[]) (owF (tyOpt (tyD kInt tyStr))) :=
 (zcA_ (i:=1) rfl (zgB_ z4_) (ziL_ kInt tyStr) fun signs_1=>(at_ [(Sl.fz (tyL tyPass) c),(Sl.ow (owD kInt tyStr) signs_1),Sl.dead] (za8_ (LS:=(fun s_2:Qq1=>[(Sl.fz (tyL tyPass) c),(Sl.ow (owD kInt tyStr) s_2),Sl.dead])) (zcJ_ (L':=[(Sl.fz (tyL tyPass) c),(Sl.ow (owD kInt tyStr) signs_1),Sl.dead]) (.same (.same (.same .nil))) (zhM_ (LS:=(fun s_2:Qq1=>[(Sl.fz (tyL tyPass) c),(Sl.ow (owD kInt tyStr) s_2),Sl.dead])) (s0:=signs_1) (ei_l (zb_ 0 rfl)) (zbq_ 2) fun s_2 x_3=>at_ [(Sl.fz (tyL tyPass) c),(Sl.ow (owD kInt tyStr) s_2),(Sl.fz tyPass x_3)] (zen_ (za8_ (LS:=(fun s_8:Qq1=>[(Sl.fz (tyL tyPass) c),(Sl.ow (owD kInt tyStr) s_8),(Sl.fz tyPass x_3)])) (s_if (zE_ (zJ_ zgk_ (zc1_ (zb_ 2 rfl)) (zbm_ [112,105,99,107]))) (zml_ (i:=1) rfl z4_ z3_ (zaK_ (zb_ 2 rfl)) (zb2_ (zb_ 2 rfl)) zi7_ (fun q_11=>atF [(Sl.fz (tyL tyPass) c),(Sl.ow (owD kInt tyStr) q_11.2),(Sl.fz tyPass x_3)] (zb2_ (zb_ 2 rfl))) (fun q_11=>at_ [(Sl.fz (tyL tyPass) c),(Sl.ow (owD kInt tyStr) q_11.2),(Sl.fz tyPass x_3)] (zcb_ (EvF.ow zdc_))) (fun q_11=>at_ [(Sl.fz (tyL tyPass) c),(Sl.ow (owD kInt tyStr) q_11.2),(Sl.fz tyPass x_3)] (zl_ (.same (.same (.same .nil)))))) (zl_ (.same (.same (.same .nil))))) fun s_8=>(at_ [(Sl.fz (tyL tyPass) c),(Sl.ow (owD kInt tyStr) s_8),(Sl.fz tyPass x_3)] (zl_ (.same (.same (.dead .nil))))))))) fun s_2=>(at_ [(Sl.fz (tyL tyPass) c),(Sl.ow (owD kInt tyStr) s_2),Sl.dead] (zjr_ (i:=1) rfl (at_ [(Sl.fz (tyL tyPass) c),(Sl.fz (tyD kInt tyStr) s_2),Sl.dead] (zcb_ (EvF.ow (zcd_ (fun _ _ _=>zk2_) (zb_ 1 rfl))))))))))
theorem zdC_ {K:Fgg}:RD_picked_signs K:=zel_ (K:=K) (N:=["row", "signs", "step"]) (C:=(csLast (tyL tyPass))) (O:=(owF (tyOpt (tyD kInt tyStr)))) (t:=fun E=>zaC_ K) (ss:=fun c=>[(Sl.fz (tyL tyPass) c)]) (f:=fun c=>za0_ c) 1 2 zf_ rfl zac_ fun c E=>zdJ_ c
theorem zgp_ {K:Fgg}{E:XK}(c:(List Pas)):EvS K (zbP_ K) E [(Sl.fz (tyL tyPass) c),Sl.dead,Sl.dead,Sl.dead] (zco_ c) (fun _:Unit=>[]) (fun _:Unit=>[]) (owF (tyOpt Qq0)) :=
 (zfA_ (i:=1) rfl (zo_ (ze_ (zb_ 0 rfl))) fun signs_2=>(at_ [(Sl.fz (tyL tyPass) c),(Sl.fz (tyOpt (tyD kInt tyStr)) signs_2),Sl.dead,Sl.dead] (za8_ (LS:=(fun _:Unit=>[(Sl.fz (tyL tyPass) c),(Sl.fz (tyOpt (tyD kInt tyStr)) signs_2),Sl.dead,Sl.dead])) (s_if (zE_ (zJ_ zcD_ (zb_ 1 rfl) zez_)) (zcb_ (EvF.ow zdc_)) (zl_ (S4 .nil))) fun _=>(at_ [(Sl.fz (tyL tyPass) c),(Sl.fz (tyOpt (tyD kInt tyStr)) signs_2),Sl.dead,Sl.dead] (zfM_ (T:=(tyD kInt tyStr)) (i:=1) rfl fun signs_9=>at_ [(Sl.fz (tyL tyPass) c),(Sl.fz (tyD kInt tyStr) signs_9),Sl.dead,Sl.dead] (zcA_ (i:=2) rfl (zbl_ z3_) (zeu_ tyInt) fun columns_10=>(at_ [(Sl.fz (tyL tyPass) c),(Sl.fz (tyD kInt tyStr) signs_9),(Sl.ow (owL tyInt) columns_10),Sl.dead] (za8_ (LS:=(fun s_11:(List Int)=>[(Sl.fz (tyL tyPass) c),(Sl.fz (tyD kInt tyStr) signs_9),(Sl.ow (owL tyInt) s_11),Sl.dead])) (zcJ_ (L':=[(Sl.fz (tyL tyPass) c),(Sl.fz (tyD kInt tyStr) signs_9),(Sl.ow (owL tyInt) columns_10),Sl.dead]) (S4 .nil) (zhM_ (LS:=(fun s_11:(List Int)=>[(Sl.fz (tyL tyPass) c),(Sl.fz (tyD kInt tyStr) signs_9),(Sl.ow (owL tyInt) s_11),Sl.dead])) (s0:=columns_10) (zlT_ (ze_ (zb_ 0 rfl))) (zbq_ 3) fun s_11 x_13=>at_ [(Sl.fz (tyL tyPass) c),(Sl.fz (tyD kInt tyStr) signs_9),(Sl.ow (owL tyInt) s_11),(Sl.fz tyPass x_13)] (zen_ (za8_ (LS:=(fun s_26:(List Int)=>[(Sl.fz (tyL tyPass) c),(Sl.fz (tyD kInt tyStr) signs_9),(Sl.ow (owL tyInt) s_26),(Sl.fz tyPass x_13)])) (s_if (zd3_ (zE_ (zJ_ zgk_ (zc1_ (zb_ 3 rfl)) (zbm_ [100,101,97,108]))) (zd3_ (zE_ (zh4_ true (zaK_ (zb_ 3 rfl)) (zb_ 1 rfl))) (zE_ (zJ_ (zhl_ zhu_) (zaK_ (zb_ 3 rfl)) (zdN_ 2 rfl))))) (zen_ (zfl_ (i:=2) rfl z3_ (zaK_ (zb_ 3 rfl)) fun a_28=>(at_ [(Sl.fz (tyL tyPass) c),(Sl.fz (tyD kInt tyStr) signs_9),(Sl.ow (owL tyInt) (s_11++[a_28])),(Sl.fz tyPass x_13)] (zl_ (S4 .nil))))) (zl_ (S4 .nil))) fun s_26=>(at_ [(Sl.fz (tyL tyPass) c),(Sl.fz (tyD kInt tyStr) signs_9),(Sl.ow (owL tyInt) s_26),(Sl.fz tyPass x_13)] (zl_ (.same (.same (.same (.dead .nil)))))))))) fun s_11=>(at_ [(Sl.fz (tyL tyPass) c),(Sl.fz (tyD kInt tyStr) signs_9),(Sl.ow (owL tyInt) s_11),Sl.dead] (zjr_ (i:=2) rfl (at_ [(Sl.fz (tyL tyPass) c),(Sl.fz (tyD kInt tyStr) signs_9),(Sl.fz (tyL tyInt) s_11),Sl.dead] (zcb_ (EvF.ow (zcd_ (fun _ _ _=>zlh_) (zje_ (zg_ zf_) (zk_ (zb_ 1 rfl) (ze_ (zb_ 2 rfl))))))))))))))))))
theorem zge_ {K:Fgg}:RD_sense_of K:=zel_ (K:=K) (N:=["row", "signs", "columns", "step"]) (C:=(csLast (tyL tyPass))) (O:=(owF (tyOpt Qq0))) (t:=fun E=>zbP_ K) (ss:=fun c=>[(Sl.fz (tyL tyPass) c)]) (f:=fun c=>zco_ c) 1 3 zf_ rfl zac_ fun c E=>zgp_ c
theorem zfz_ {K:Fgg}{E:XK}(c:(Qq1×(List Nat))):EvS K (zbs_ K) E [(Sl.fz (tyD kInt tyStr) c.1),(Sl.fz tyStr c.2),Sl.dead] (zbU_ c.1 c.2) (fun _:Unit=>[]) (fun _:Unit=>[]) (owF tyStr) :=
 (zcA_ (i:=2) rfl (zbl_ z4_) (zhx_ (ziN_ (zk_ (zn_ 1) (ze_ (zJ_ zaW_ (zn_ 36) (zn_ 1))))) (zbq_ 0) (fun _=>dead1) (fun x_7=>zks_) (fun x_7=>(zjx_ (zb_ 1 rfl) (zb_ 0 rfl) (zbm_ [32])))) fun body_1=>zjr_ (i:=2) rfl (at_ [(Sl.fz (tyD kInt tyStr) c.1),(Sl.fz tyStr c.2),(Sl.fz (tyL tyStr) body_1)] (zbX_ (zbu_ z4_) (EvF.ow (zJ_ ziO_ (ev_me zkm_ (zbm_ []) (ze_ (zb_ 2 rfl))) (zb_ 1 rfl))))))
theorem ze7_ {K:Fgg}:RD_card_with K:=zel_ (K:=K) (N:=["signs", "mark", "body"]) (C:=(csCons (tyD kInt tyStr) (csLast tyStr))) (O:=(owF tyStr)) (t:=fun E=>zbs_ K) (ss:=fun c=>[(Sl.fz (tyD kInt tyStr) c.1),(Sl.fz tyStr c.2)]) (f:=fun c=>zbU_ c.1 c.2) 2 1 (zg_ zf_) rfl (zX_ zac_) fun c E=>zfz_ c
theorem zdt_ {K:Fgg}{E:XK}(c:(Qq1×Qq1)):EvS K (zaG_ K) E [(Sl.fz (tyD kInt tyStr) c.1),(Sl.fz (tyD kInt tyStr) c.2),Sl.dead,Sl.dead] (zaZ_ c.1 c.2) (fun _:Unit=>[]) (fun _:Unit=>[]) (owF (tyOpt tyStr)) :=
 (za8_ (LS:=(fun _:Unit=>[(Sl.fz (tyD kInt tyStr) c.1),(Sl.fz (tyD kInt tyStr) c.2),Sl.dead,Sl.dead])) (zcJ_ (L':=[(Sl.fz (tyD kInt tyStr) c.1),(Sl.fz (tyD kInt tyStr) c.2),Sl.dead,Sl.dead]) (S4 .nil) (zhM_ (LS:=(fun _:Unit=>[(Sl.fz (tyD kInt tyStr) c.1),(Sl.fz (tyD kInt tyStr) c.2),Sl.dead,Sl.dead])) (s0:=()) (ei_l (EvO.fr (zdY_ (zhI_ zma_ zmp_ zlU_) (ze_ (zb_ 0 rfl))))) (zbq_ 2) fun _ x_3=>at_ [(Sl.fz (tyD kInt tyStr) c.1),(Sl.fz (tyD kInt tyStr) c.2),(Sl.fz tyInt x_3),Sl.dead] (s_if (zE_ (zJ_ zla_ (zj2_ (fun _ _ _=>zk7_) (zb_ 1 rfl) (zb_ 2 rfl)) (zhk_ (zb_ 0 rfl) (zb_ 2 rfl)))) (zcA_ (i:=3) rfl (zgB_ z4_) (zdY_ zgw_ (ze_ (zb_ 1 rfl))) fun seen_11=>(at_ [(Sl.fz (tyD kInt tyStr) c.1),(Sl.fz (tyD kInt tyStr) c.2),(Sl.fz tyInt x_3),(Sl.ow (owD kInt tyStr) seen_11)] (zjs_ (i:=3) rfl z4_ z3_ (zb_ 2 rfl) (ev_if (zE_ (zJ_ zgk_ (zhk_ (zb_ 0 rfl) (zb_ 2 rfl)) (zbm_ [48]))) (zbm_ [49]) (zbm_ [48])) fun m_15=>(at_ [(Sl.fz (tyD kInt tyStr) c.1),(Sl.fz (tyD kInt tyStr) c.2),(Sl.fz tyInt x_3),(Sl.ow (owD kInt tyStr) m_15)] (zbX_ (zbu_ (zfN_ z4_)) (EvF.ow (zcd_ (fun _ _ _=>zk7_) (zo_ (zk_ (zeI_ 3 rfl) (ze_ (zbm_ [48,48,48,49]))))))))))) (zl_ (.same (.same (.dead (.same .nil)))))))) fun _=>(at_ [(Sl.fz (tyD kInt tyStr) c.1),(Sl.fz (tyD kInt tyStr) c.2),Sl.dead,Sl.dead] (zbX_ (zbu_ (zfN_ z4_)) (EvF.ow zdc_))))
theorem zdE_ {K:Fgg}:RD_stopped_card K:=zel_ (K:=K) (N:=Qn16) (C:=(csCons (tyD kInt tyStr) (csLast (tyD kInt tyStr)))) (O:=(owF (tyOpt tyStr))) (t:=fun E=>zaG_ K) (ss:=fun c=>[(Sl.fz (tyD kInt tyStr) c.1),(Sl.fz (tyD kInt tyStr) c.2)]) (f:=fun c=>zaZ_ c.1 c.2) 2 2 (zg_ zf_) rfl (zX_ zac_) fun c E=>zdt_ c
theorem zcl_ {K:Fgg}{E:XK}(c:(Qq1×Qq1)):EvS K (z5_ K) E [(Sl.fz (tyD kInt tyStr) c.1),(Sl.fz (tyD kInt tyStr) c.2),Sl.dead] (zW_ c.1 c.2) (fun _:Unit=>[]) (fun _:Unit=>[]) (owF (tyOpt (tyL tyStr))) :=
 (zdM_ (i:=2) rfl (zfN_ z4_) (zo_ (zk_ (zb_ 0 rfl) (ze_ (zb_ 1 rfl)))) fun card_2=>(at_ [(Sl.fz (tyD kInt tyStr) c.1),(Sl.fz (tyD kInt tyStr) c.2),(Sl.fz (tyOpt tyStr) card_2)] (za8_ (LS:=(fun s_9:(Option (List Nat))=>[(Sl.fz (tyD kInt tyStr) c.1),(Sl.fz (tyD kInt tyStr) c.2),(Sl.fz (tyOpt tyStr) s_9)])) (s_if (zE_ (zJ_ zcD_ (zb_ 2 rfl) zez_)) (zen_ (zdM_ (i:=2) rfl (zfN_ z4_) (zo_ (zk_ (zb_ 1 rfl) (ze_ (zb_ 0 rfl)))) fun card_11=>(at_ [(Sl.fz (tyD kInt tyStr) c.1),(Sl.fz (tyD kInt tyStr) c.2),(Sl.fz (tyOpt tyStr) card_11)] (zl_ (.same (.same (.same .nil))))))) (zl_ (.same (.same (.same .nil))))) fun s_9=>(at_ [(Sl.fz (tyD kInt tyStr) c.1),(Sl.fz (tyD kInt tyStr) c.2),(Sl.fz (tyOpt tyStr) s_9)] (zkA_ (zE_ (zJ_ zcD_ (zb_ 2 rfl) zez_)) (zcb_ (EvF.ow zdc_)) (zfM_ (T:=tyStr) (i:=2) rfl fun card_19=>at_ [(Sl.fz (tyD kInt tyStr) c.1),(Sl.fz (tyD kInt tyStr) c.2),(Sl.fz tyStr card_19)] (zcb_ (EvF.ow (zcd_ (fun _ _ _=>nn_l) (EvO.fr (zb0_ zf_ zas_ (ze_ (zb_ 2 rfl)))))))))))))
theorem zcq_ {K:Fgg}:RD_parting_of_picks K:=zel_ (K:=K) (N:=["signs", "others", "card"]) (C:=(csCons (tyD kInt tyStr) (csLast (tyD kInt tyStr)))) (O:=(owF (tyOpt (tyL tyStr)))) (t:=fun E=>z5_ K) (ss:=fun c=>[(Sl.fz (tyD kInt tyStr) c.1),(Sl.fz (tyD kInt tyStr) c.2)]) (f:=fun c=>zW_ c.1 c.2) 2 1 (zg_ zf_) rfl (zX_ zac_) fun c E=>zcl_ c
theorem zeh_ {K:Fgg}{E:XK}(c:((List Int)×(List Int))):EvS K (zaR_ K) E [(Sl.fz (tyL tyInt) c.1),(Sl.fz (tyL tyInt) c.2)] (zbh_ c.1 c.2) (fun _:Unit=>[]) (fun _:Unit=>[]) (owF tyBl) :=
 (zbX_ (zbu_ zdi_) (EvF.ow (zJ_ (zjJ_ (zjI_ zhd_)) (EvO.fr (zbk_ (zb_ 0 rfl) zcL_ (zcm_ (zff_ zcg_ (ze_ (zb_ 1 rfl)))))) (zb_ 1 rfl))))
theorem zej_ {K:Fgg}:RD_begins_with K:=zel_ (K:=K) (N:=Qn10) (C:=(csCons (tyL tyInt) (csLast (tyL tyInt)))) (O:=(owF tyBl)) (t:=fun E=>zaR_ K) (ss:=fun c=>[(Sl.fz (tyL tyInt) c.1),(Sl.fz (tyL tyInt) c.2)]) (f:=fun c=>zbh_ c.1 c.2) 2 0 (zg_ zf_) rfl (zX_ zac_) fun c E=>zeh_ c
theorem zc0_ {K:Fgg}{E:XK}(c:((List Int)×(List Int))):EvS K (zap_ K) E [(Sl.fz (tyL tyInt) c.1),(Sl.fz (tyL tyInt) c.2),Sl.dead] (zaM_ c.1 c.2) (fun _:Unit=>[]) (fun _:Unit=>[]) (owF tyInt) :=
 (zdM_ (i:=2) rfl z3_ (zn_ 0) fun length_1=>(at_ [(Sl.fz (tyL tyInt) c.1),(Sl.fz (tyL tyInt) c.2),(Sl.fz tyInt length_1)] (za8_ (LS:=(fun s_2:Int=>[(Sl.fz (tyL tyInt) c.1),(Sl.fz (tyL tyInt) c.2),(Sl.fz tyInt s_2)])) (zcJ_ (L':=[(Sl.fz (tyL tyInt) c.1),(Sl.fz (tyL tyInt) c.2),(Sl.fz tyInt length_1)]) (.same (.same (.same .nil))) (ziD_ (LS:=(fun s_2:Int=>[(Sl.fz (tyL tyInt) c.1),(Sl.fz (tyL tyInt) c.2),(Sl.fz tyInt s_2)])) (s0:=length_1) fuelW (fun s_2=>(zd3_ (zE_ (zJ_ zfF_ (zb_ 2 rfl) (zff_ zmc_ (zk_ (zff_ zcg_ (ze_ (zb_ 0 rfl))) (ze_ (zff_ zcg_ (ze_ (zb_ 1 rfl)))))))) (zE_ (zJ_ zb3_ (zJ_ zdA_ (zb_ 0 rfl) (zb_ 2 rfl)) (zJ_ zdA_ (zb_ 1 rfl) (zb_ 2 rfl)))))) fun s_2=>at_ [(Sl.fz (tyL tyInt) c.1),(Sl.fz (tyL tyInt) c.2),(Sl.fz tyInt s_2)] (zen_ (zdM_ (i:=2) rfl z3_ (zJ_ zaW_ (zb_ 2 rfl) (zn_ 1)) fun length_17=>(at_ [(Sl.fz (tyL tyInt) c.1),(Sl.fz (tyL tyInt) c.2),(Sl.fz tyInt length_17)] (zl_ (.same (.same (.same .nil))))))))) fun s_2=>(at_ [(Sl.fz (tyL tyInt) c.1),(Sl.fz (tyL tyInt) c.2),(Sl.fz tyInt s_2)] (zbX_ (zbu_ z3_) (EvF.ow (zb_ 2 rfl)))))))
theorem zda_ {K:Fgg}:RD_shared_length K:=zel_ (K:=K) (N:=["one", "other", "length"]) (C:=(csCons (tyL tyInt) (csLast (tyL tyInt)))) (O:=(owF tyInt)) (t:=fun E=>zap_ K) (ss:=fun c=>[(Sl.fz (tyL tyInt) c.1),(Sl.fz (tyL tyInt) c.2)]) (f:=fun c=>zaM_ c.1 c.2) 2 1 (zg_ zf_) rfl (zX_ zac_) fun c E=>zc0_ c
theorem zdx_ {K:Fgg}{E:XK}(c:(Qq1×((List Int)×(List Int)))):EvS K (zaz_ K) E [(Sl.fz (tyD kInt tyStr) c.1),(Sl.fz (tyL tyInt) c.2.1),(Sl.fz (tyL tyInt) c.2.2),Sl.dead,Sl.dead,Sl.dead,Sl.dead] (zaX_ c.1 c.2.1 c.2.2) (fun _:Unit=>[]) (fun _:Unit=>[]) (owL tyStr) :=
 (zdM_ (i:=3) rfl z3_ (zo_ (zk_ (zb_ 1 rfl) (ze_ (zb_ 2 rfl)))) fun shared_1=>(at_ [(Sl.fz (tyD kInt tyStr) c.1),(Sl.fz (tyL tyInt) c.2.1),(Sl.fz (tyL tyInt) c.2.2),(Sl.fz tyInt shared_1),Sl.dead,Sl.dead,Sl.dead] (zcA_ (i:=4) rfl (zgB_ z4_) (zdY_ zgw_ (ze_ (zb_ 0 rfl))) fun low_5=>(at_ [(Sl.fz (tyD kInt tyStr) c.1),(Sl.fz (tyL tyInt) c.2.1),(Sl.fz (tyL tyInt) c.2.2),(Sl.fz tyInt shared_1),(Sl.ow (owD kInt tyStr) low_5),Sl.dead,Sl.dead] (zcA_ (i:=5) rfl (zgB_ z4_) (zdY_ zgw_ (ze_ (zb_ 0 rfl))) fun high_7=>(at_ [(Sl.fz (tyD kInt tyStr) c.1),(Sl.fz (tyL tyInt) c.2.1),(Sl.fz (tyL tyInt) c.2.2),(Sl.fz tyInt shared_1),(Sl.ow (owD kInt tyStr) low_5),(Sl.ow (owD kInt tyStr) high_7),Sl.dead] (za8_ (LS:=(fun s_9:(Qq1×Qq1)=>[(Sl.fz (tyD kInt tyStr) c.1),(Sl.fz (tyL tyInt) c.2.1),(Sl.fz (tyL tyInt) c.2.2),(Sl.fz tyInt shared_1),(Sl.ow (owD kInt tyStr) s_9.1),(Sl.ow (owD kInt tyStr) s_9.2),Sl.dead])) (zcJ_ (L':=[(Sl.fz (tyD kInt tyStr) c.1),(Sl.fz (tyL tyInt) c.2.1),(Sl.fz (tyL tyInt) c.2.2),(Sl.fz tyInt shared_1),(Sl.ow (owD kInt tyStr) low_5),(Sl.ow (owD kInt tyStr) high_7),Sl.dead]) (S4 (.same (.same (.same .nil)))) (zhM_ (LS:=(fun s_9:(Qq1×Qq1)=>[(Sl.fz (tyD kInt tyStr) c.1),(Sl.fz (tyL tyInt) c.2.1),(Sl.fz (tyL tyInt) c.2.2),(Sl.fz tyInt shared_1),(Sl.ow (owD kInt tyStr) s_9.1),(Sl.ow (owD kInt tyStr) s_9.2),Sl.dead])) (s0:=(low_5,high_7)) (ziN_ (zk_ (zn_ 1) (ze_ (zJ_ zaW_ (zn_ 36) (zn_ 1))))) (zbq_ 6) fun s_9 x_15=>at_ [(Sl.fz (tyD kInt tyStr) c.1),(Sl.fz (tyL tyInt) c.2.1),(Sl.fz (tyL tyInt) c.2.2),(Sl.fz tyInt shared_1),(Sl.ow (owD kInt tyStr) s_9.1),(Sl.ow (owD kInt tyStr) s_9.2),(Sl.fz tyInt x_15)] (zen_ (za8_ (LS:=(fun s_26:(Qq1×Qq1)=>[(Sl.fz (tyD kInt tyStr) c.1),(Sl.fz (tyL tyInt) c.2.1),(Sl.fz (tyL tyInt) c.2.2),(Sl.fz tyInt shared_1),(Sl.ow (owD kInt tyStr) s_26.1),(Sl.ow (owD kInt tyStr) s_26.2),(Sl.fz tyInt x_15)])) (s_if (zd3_ (zE_ (zh4_ true (zb_ 6 rfl) (zb_ 0 rfl))) (zE_ (zJ_ (zhl_ zhu_) (zb_ 6 rfl) (EvO.fr (zbk_ (zb_ 1 rfl) zcL_ (zcm_ (zb_ 3 rfl))))))) (zgM_ (i:=4) rfl z4_ z3_ (zbm_ [48]) (zb_ 6 rfl) fun a_27 y_28=>(at_ [(Sl.fz (tyD kInt tyStr) c.1),(Sl.fz (tyL tyInt) c.2.1),(Sl.fz (tyL tyInt) c.2.2),(Sl.fz tyInt shared_1),(Sl.ow (owD kInt tyStr) (putA s_9.1 y_28 a_27)),(Sl.ow (owD kInt tyStr) s_9.2),(Sl.fz tyInt x_15)] (zen_ (zgM_ (i:=5) rfl z4_ z3_ (zbm_ [49]) (zb_ 6 rfl) fun a_29 y_30=>(at_ [(Sl.fz (tyD kInt tyStr) c.1),(Sl.fz (tyL tyInt) c.2.1),(Sl.fz (tyL tyInt) c.2.2),(Sl.fz tyInt shared_1),(Sl.ow (owD kInt tyStr) (putA s_9.1 y_28 a_27)),(Sl.ow (owD kInt tyStr) (putA s_9.2 y_30 a_29)),(Sl.fz tyInt x_15)] (zl_ (S4 (.same (.same (.same .nil)))))))))) (zl_ (S4 (.same (.same (.same .nil)))))) fun s_26=>(at_ [(Sl.fz (tyD kInt tyStr) c.1),(Sl.fz (tyL tyInt) c.2.1),(Sl.fz (tyL tyInt) c.2.2),(Sl.fz tyInt shared_1),(Sl.ow (owD kInt tyStr) s_26.1),(Sl.ow (owD kInt tyStr) s_26.2),(Sl.fz tyInt x_15)] (zl_ (S4 (.same (.same (.dead .nil)))))))))) fun s_9=>(at_ [(Sl.fz (tyD kInt tyStr) c.1),(Sl.fz (tyL tyInt) c.2.1),(Sl.fz (tyL tyInt) c.2.2),(Sl.fz tyInt shared_1),(Sl.ow (owD kInt tyStr) s_9.1),(Sl.ow (owD kInt tyStr) s_9.2),Sl.dead] (za8_ (LS:=(fun s_36:(Qq1×Qq1)=>[(Sl.fz (tyD kInt tyStr) c.1),(Sl.fz (tyL tyInt) c.2.1),(Sl.fz (tyL tyInt) c.2.2),(Sl.fz tyInt shared_1),(Sl.ow (owD kInt tyStr) s_36.1),(Sl.ow (owD kInt tyStr) s_36.2),Sl.dead])) (s_if (zE_ (zJ_ zfF_ (zb_ 3 rfl) (zff_ zcg_ (ze_ (zb_ 2 rfl))))) (zgM_ (i:=4) rfl z4_ z3_ (zbm_ [49]) (zJ_ zdA_ (zb_ 2 rfl) (zb_ 3 rfl)) fun a_39 y_40=>(at_ [(Sl.fz (tyD kInt tyStr) c.1),(Sl.fz (tyL tyInt) c.2.1),(Sl.fz (tyL tyInt) c.2.2),(Sl.fz tyInt shared_1),(Sl.ow (owD kInt tyStr) (putA s_9.1 y_40 a_39)),(Sl.ow (owD kInt tyStr) s_9.2),Sl.dead] (zen_ (zgM_ (i:=5) rfl z4_ z3_ (zbm_ [48]) (zJ_ zdA_ (zb_ 2 rfl) (zb_ 3 rfl)) fun a_43 y_44=>(at_ [(Sl.fz (tyD kInt tyStr) c.1),(Sl.fz (tyL tyInt) c.2.1),(Sl.fz (tyL tyInt) c.2.2),(Sl.fz tyInt shared_1),(Sl.ow (owD kInt tyStr) (putA s_9.1 y_40 a_39)),(Sl.ow (owD kInt tyStr) (putA s_9.2 y_44 a_43)),Sl.dead] (zl_ (S4 (.same (.same (.same .nil)))))))))) (zl_ (S4 (.same (.same (.same .nil)))))) fun s_36=>(at_ [(Sl.fz (tyD kInt tyStr) c.1),(Sl.fz (tyL tyInt) c.2.1),(Sl.fz (tyL tyInt) c.2.2),(Sl.fz tyInt shared_1),(Sl.ow (owD kInt tyStr) s_36.1),(Sl.ow (owD kInt tyStr) s_36.2),Sl.dead] (zbX_ (zbl_ z4_) (zb0_ (zg_ zf_) (zcw_ zas_) (zk_ (zo_ (zk_ (zeI_ 5 rfl) (ze_ (zbm_ [48,48,48,49])))) (ze_ (zo_ (zk_ (zeI_ 4 rfl) (ze_ (zbm_ [48,48,48,50]))))))))))))))))))
theorem zdn_ {K:Fgg}:RD_crossed_deck K:=zel_ (K:=K) (N:=Qn6) (C:=(csCons (tyD kInt tyStr) (csCons (tyL tyInt) (csLast (tyL tyInt))))) (O:=(owL tyStr)) (t:=fun E=>zaz_ K) (ss:=fun c=>[(Sl.fz (tyD kInt tyStr) c.1),(Sl.fz (tyL tyInt) c.2.1),(Sl.fz (tyL tyInt) c.2.2)]) (f:=fun c=>zaX_ c.1 c.2.1 c.2.2) 3 4 (zg_ (zg_ zf_)) rfl (zX_ (zX_ zac_)) fun c E=>zdx_ c
theorem zb8_ {K:Fgg}{E:XK}(c:(Qq1×((List Int)×(List Int)))):EvS K (zY_ K) E [(Sl.fz (tyD kInt tyStr) c.1),(Sl.fz (tyL tyInt) c.2.1),(Sl.fz (tyL tyInt) c.2.2)] (zai_ c.1 c.2.1 c.2.2) (fun _:Unit=>[]) (fun _:Unit=>[]) (owF (tyOpt (tyL tyStr))) :=
 (za8_ (LS:=(fun _:Unit=>[(Sl.fz (tyD kInt tyStr) c.1),(Sl.fz (tyL tyInt) c.2.1),(Sl.fz (tyL tyInt) c.2.2)])) (s_if (zE_ (zJ_ (zjJ_ (zjI_ zhd_)) (zb_ 1 rfl) (zb_ 2 rfl))) (zcb_ (EvF.ow zdc_)) (zl_ (.same (.same (.same .nil))))) fun _=>(at_ [(Sl.fz (tyD kInt tyStr) c.1),(Sl.fz (tyL tyInt) c.2.1),(Sl.fz (tyL tyInt) c.2.2)] (za8_ (LS:=(fun _:Unit=>[(Sl.fz (tyD kInt tyStr) c.1),(Sl.fz (tyL tyInt) c.2.1),(Sl.fz (tyL tyInt) c.2.2)])) (s_if (zE_ (zo_ (zk_ (zb_ 2 rfl) (ze_ (zb_ 1 rfl))))) (zcb_ (EvF.ow (zcd_ (fun _ _ _=>nn_l) (EvO.fr (zb1_ (zk_ (zb_ 0 rfl) (zk_ (zb_ 2 rfl) (ze_ (zb_ 1 rfl))))))))) (zl_ (.same (.same (.same .nil))))) fun _=>(at_ [(Sl.fz (tyD kInt tyStr) c.1),(Sl.fz (tyL tyInt) c.2.1),(Sl.fz (tyL tyInt) c.2.2)] (zcb_ (EvF.ow (zcd_ (fun _ _ _=>nn_l) (EvO.fr (zb1_ (zk_ (zb_ 0 rfl) (zk_ (zb_ 1 rfl) (ze_ (zb_ 2 rfl)))))))))))))
theorem zb7_ {K:Fgg}:RD_parting_of_orders K:=zel_ (K:=K) (N:=Qn3) (C:=(csCons (tyD kInt tyStr) (csCons (tyL tyInt) (csLast (tyL tyInt))))) (O:=(owF (tyOpt (tyL tyStr)))) (t:=fun E=>zY_ K) (ss:=fun c=>[(Sl.fz (tyD kInt tyStr) c.1),(Sl.fz (tyL tyInt) c.2.1),(Sl.fz (tyL tyInt) c.2.2)]) (f:=fun c=>zai_ c.1 c.2.1 c.2.2) 3 0 (zg_ (zg_ zf_)) rfl (zX_ (zX_ zac_)) fun c E=>zb8_ c
theorem zet_ {K:Fgg}{E:XK}(c:((List Pas)×(List Pas))):EvS K (za9_ K) E [(Sl.fz (tyL tyPass) c.1),(Sl.fz (tyL tyPass) c.2),Sl.dead,Sl.dead,Sl.dead] (z8_ c.1 c.2) (fun _:Unit=>[]) (fun _:Unit=>[]) (owF (tyOpt (tyL tyStr))) :=
 (zfA_ (i:=2) rfl (zo_ (ze_ (zb_ 0 rfl))) fun sense_2=>(at_ [(Sl.fz (tyL tyPass) c.1),(Sl.fz (tyL tyPass) c.2),(Sl.fz (tyOpt Qq0) sense_2),Sl.dead,Sl.dead] (zfA_ (i:=3) rfl (zo_ (ze_ (zb_ 1 rfl))) fun other_sense_5=>(at_ [(Sl.fz (tyL tyPass) c.1),(Sl.fz (tyL tyPass) c.2),(Sl.fz (tyOpt Qq0) sense_2),(Sl.fz (tyOpt Qq0) other_sense_5),Sl.dead] (za8_ (LS:=(fun _:Unit=>[(Sl.fz (tyL tyPass) c.1),(Sl.fz (tyL tyPass) c.2),(Sl.fz (tyOpt Qq0) sense_2),(Sl.fz (tyOpt Qq0) other_sense_5),Sl.dead])) (s_if (zE_ (zJ_ ziA_ (zb_ 2 rfl) (zb_ 3 rfl))) (zcb_ (EvF.ow zdc_)) (zl_ (S4 (.same .nil)))) fun _=>(at_ [(Sl.fz (tyL tyPass) c.1),(Sl.fz (tyL tyPass) c.2),(Sl.fz (tyOpt Qq0) sense_2),(Sl.fz (tyOpt Qq0) other_sense_5),Sl.dead] (za8_ (LS:=(fun _:Unit=>[(Sl.fz (tyL tyPass) c.1),(Sl.fz (tyL tyPass) c.2),(Sl.fz (tyOpt Qq0) sense_2),(Sl.fz (tyOpt Qq0) other_sense_5),Sl.dead])) (s_if (zE_ (zJ_ zcD_ (zb_ 2 rfl) zez_)) (zcb_ (EvF.ow (zcd_ (fun _ _ _=>nn_l) (EvO.fr (O:=(owL tyStr)) (zb0_ zf_ zas_ (ze_ (zo_ (zk_ (zfg_ (i:=0) at_0 (zbC_ (zb_ 3 rfl))) (ze_ (zbm_ [48,48,48,49])))))))))) (zl_ (S4 (.same .nil)))) fun _=>(at_ [(Sl.fz (tyL tyPass) c.1),(Sl.fz (tyL tyPass) c.2),(Sl.fz (tyOpt Qq0) sense_2),(Sl.fz (tyOpt Qq0) other_sense_5),Sl.dead] (zfM_ (T:=Qq0) (i:=2) rfl fun sense_24=>at_ [(Sl.fz (tyL tyPass) c.1),(Sl.fz (tyL tyPass) c.2),(Sl.fz Qq0 sense_24),(Sl.fz (tyOpt Qq0) other_sense_5),Sl.dead] (za8_ (LS:=(fun _:Unit=>[(Sl.fz (tyL tyPass) c.1),(Sl.fz (tyL tyPass) c.2),(Sl.fz Qq0 sense_24),(Sl.fz (tyOpt Qq0) other_sense_5),Sl.dead])) (s_if (zE_ (zJ_ zcD_ (zb_ 3 rfl) zez_)) (zcb_ (EvF.ow (zcd_ (fun _ _ _=>nn_l) (EvO.fr (O:=(owL tyStr)) (zb0_ zf_ zas_ (ze_ (zo_ (zk_ (zfg_ (i:=0) at_0 (zb_ 2 rfl)) (ze_ (zbm_ [48,48,48,49])))))))))) (zl_ (S4 (.same .nil)))) fun _=>(at_ [(Sl.fz (tyL tyPass) c.1),(Sl.fz (tyL tyPass) c.2),(Sl.fz Qq0 sense_24),(Sl.fz (tyOpt Qq0) other_sense_5),Sl.dead] (zfM_ (T:=Qq0) (i:=3) rfl fun other_sense_36=>at_ [(Sl.fz (tyL tyPass) c.1),(Sl.fz (tyL tyPass) c.2),(Sl.fz Qq0 sense_24),(Sl.fz Qq0 other_sense_36),Sl.dead] (zfA_ (i:=4) rfl (zo_ (zk_ (zfg_ (i:=0) at_0 (zb_ 2 rfl)) (ze_ (zfg_ (i:=0) at_0 (zb_ 3 rfl))))) fun deck_38=>(at_ [(Sl.fz (tyL tyPass) c.1),(Sl.fz (tyL tyPass) c.2),(Sl.fz Qq0 sense_24),(Sl.fz Qq0 other_sense_36),(Sl.fz (tyOpt (tyL tyStr)) deck_38)] (za8_ (LS:=(fun s_47:(Option (List (List Nat)))=>[(Sl.fz (tyL tyPass) c.1),(Sl.fz (tyL tyPass) c.2),(Sl.fz Qq0 sense_24),(Sl.fz Qq0 other_sense_36),(Sl.fz (tyOpt (tyL tyStr)) s_47)])) (s_if (zE_ (zJ_ zcD_ (zb_ 4 rfl) zez_)) (zen_ (zfA_ (i:=4) rfl (zo_ (zk_ (zfg_ (i:=0) at_0 (zb_ 2 rfl)) (zk_ (zfg_ (i:=1) (at_s zht_) (zb_ 2 rfl)) (ze_ (zfg_ (i:=1) (at_s zht_) (zb_ 3 rfl)))))) fun deck_49=>(at_ [(Sl.fz (tyL tyPass) c.1),(Sl.fz (tyL tyPass) c.2),(Sl.fz Qq0 sense_24),(Sl.fz Qq0 other_sense_36),(Sl.fz (tyOpt (tyL tyStr)) deck_49)] (zl_ (S4 (.same .nil)))))) (zl_ (S4 (.same .nil)))) fun s_47=>(at_ [(Sl.fz (tyL tyPass) c.1),(Sl.fz (tyL tyPass) c.2),(Sl.fz Qq0 sense_24),(Sl.fz Qq0 other_sense_36),(Sl.fz (tyOpt (tyL tyStr)) s_47)] (zcb_ (EvF.ow (zb_ 4 rfl)))))))))))))))))))
theorem zep_ {K:Fgg}:RD_parting_of K:=zel_ (K:=K) (N:=Qn13) (C:=(csCons (tyL tyPass) (csLast (tyL tyPass)))) (O:=(owF (tyOpt (tyL tyStr)))) (t:=fun E=>za9_ K) (ss:=fun c=>[(Sl.fz (tyL tyPass) c.1),(Sl.fz (tyL tyPass) c.2)]) (f:=fun c=>z8_ c.1 c.2) 2 3 (zg_ zf_) rfl (zX_ zac_) fun c E=>zet_ c
theorem ze8_ {K:Fgg}{E:XK}(c:(List Pas)):EvS K (zbt_ K) E [(Sl.fz (tyL tyPass) c),Sl.dead,Sl.dead,Sl.dead] (zbW_ c) (fun _:Unit=>[]) (fun _:Unit=>[]) (owF (tyOpt Qq0)) :=
 (zcA_ (i:=1) rfl (zgB_ z4_) (ziL_ kInt tyStr) fun picks_1=>(at_ [(Sl.fz (tyL tyPass) c),(Sl.ow (owD kInt tyStr) picks_1),Sl.dead,Sl.dead] (zcA_ (i:=2) rfl (zbl_ z3_) (zeu_ tyInt) fun key_2=>(at_ [(Sl.fz (tyL tyPass) c),(Sl.ow (owD kInt tyStr) picks_1),(Sl.ow (owL tyInt) key_2),Sl.dead] (za8_ (LS:=(fun s_3:(Qq1×(List Int))=>[(Sl.fz (tyL tyPass) c),(Sl.ow (owD kInt tyStr) s_3.1),(Sl.ow (owL tyInt) s_3.2),Sl.dead])) (zcJ_ (L':=[(Sl.fz (tyL tyPass) c),(Sl.ow (owD kInt tyStr) picks_1),(Sl.ow (owL tyInt) key_2),Sl.dead]) (S4 .nil) (zhM_ (LS:=(fun s_3:(Qq1×(List Int))=>[(Sl.fz (tyL tyPass) c),(Sl.ow (owD kInt tyStr) s_3.1),(Sl.ow (owL tyInt) s_3.2),Sl.dead])) (s0:=(picks_1,key_2)) (ei_l (EvO.fr (zms_ (zb_ 0 rfl) (zcm_ (zl0_ (zn_ 1)))))) (zbq_ 3) fun s_3 x_5=>at_ [(Sl.fz (tyL tyPass) c),(Sl.ow (owD kInt tyStr) s_3.1),(Sl.ow (owL tyInt) s_3.2),(Sl.fz tyPass x_5)] (zen_ (za8_ (LS:=(fun s_10:(Qq1×(List Int))=>[(Sl.fz (tyL tyPass) c),(Sl.ow (owD kInt tyStr) s_10.1),(Sl.ow (owL tyInt) s_10.2),(Sl.fz tyPass x_5)])) (s_if (zE_ (zJ_ zgk_ (zc1_ (zb_ 3 rfl)) (zbm_ [112,105,99,107]))) (za8_ (LS:=(fun _:Unit=>[(Sl.fz (tyL tyPass) c),(Sl.ow (owD kInt tyStr) s_3.1),(Sl.ow (owL tyInt) s_3.2),(Sl.fz tyPass x_5)])) (s_if (zd3_ (zE_ (zh4_ false (zaK_ (zb_ 3 rfl)) (zeI_ 1 rfl))) (zE_ (zJ_ zi7_ (zhk_ (zeI_ 1 rfl) (zaK_ (zb_ 3 rfl))) (zb2_ (zb_ 3 rfl))))) (zcb_ (EvF.ow zdc_)) (zl_ (S4 .nil))) fun _=>(at_ [(Sl.fz (tyL tyPass) c),(Sl.ow (owD kInt tyStr) s_3.1),(Sl.ow (owL tyInt) s_3.2),(Sl.fz tyPass x_5)] (zen_ (zgM_ (i:=1) rfl z4_ z3_ (zb2_ (zb_ 3 rfl)) (zaK_ (zb_ 3 rfl)) fun a_26 y_27=>(at_ [(Sl.fz (tyL tyPass) c),(Sl.ow (owD kInt tyStr) (putA s_3.1 y_27 a_26)),(Sl.ow (owL tyInt) s_3.2),(Sl.fz tyPass x_5)] (zl_ (S4 .nil))))))) (zen_ (za8_ (LS:=(fun s_32:(List Int)=>[(Sl.fz (tyL tyPass) c),(Sl.ow (owD kInt tyStr) s_3.1),(Sl.ow (owL tyInt) s_32),(Sl.fz tyPass x_5)])) (s_if (zE_ (zJ_ (zhl_ zhu_) (zaK_ (zb_ 3 rfl)) (zdN_ 2 rfl))) (zen_ (zfl_ (i:=2) rfl z3_ (zaK_ (zb_ 3 rfl)) fun a_34=>(at_ [(Sl.fz (tyL tyPass) c),(Sl.ow (owD kInt tyStr) s_3.1),(Sl.ow (owL tyInt) (s_3.2++[a_34])),(Sl.fz tyPass x_5)] (zl_ (S4 .nil))))) (zl_ (S4 .nil))) fun s_32=>(at_ [(Sl.fz (tyL tyPass) c),(Sl.ow (owD kInt tyStr) s_3.1),(Sl.ow (owL tyInt) s_32),(Sl.fz tyPass x_5)] (zl_ (S4 .nil)))))) fun s_10=>(at_ [(Sl.fz (tyL tyPass) c),(Sl.ow (owD kInt tyStr) s_10.1),(Sl.ow (owL tyInt) s_10.2),(Sl.fz tyPass x_5)] (zl_ (.same (.same (.same (.dead .nil)))))))))) fun s_3=>(at_ [(Sl.fz (tyL tyPass) c),(Sl.ow (owD kInt tyStr) s_3.1),(Sl.ow (owL tyInt) s_3.2),Sl.dead] (zjr_ (i:=1) rfl (at_ [(Sl.fz (tyL tyPass) c),(Sl.fz (tyD kInt tyStr) s_3.1),(Sl.ow (owL tyInt) s_3.2),Sl.dead] (zjr_ (i:=2) rfl (at_ [(Sl.fz (tyL tyPass) c),(Sl.fz (tyD kInt tyStr) s_3.1),(Sl.fz (tyL tyInt) s_3.2),Sl.dead] (zcb_ (EvF.ow (zcd_ (fun _ _ _=>zlh_) (zje_ (zg_ zf_) (zk_ (zb_ 1 rfl) (ze_ (EvO.fr (O:=(owL tyInt)) (zhx_ (ei_l (zb_ 2 rfl)) (zbq_ 0) (fun _=>dead1) (fun x_36=>(zE_ (zh4_ true (zb_ 0 rfl) (zb_ 1 rfl)))) (fun x_36=>(zb_ 0 rfl))))))))))))))))))))
theorem ze5_ {K:Fgg}:RD_law_sense K:=zel_ (K:=K) (N:=Qn12) (C:=(csLast (tyL tyPass))) (O:=(owF (tyOpt Qq0))) (t:=fun E=>zbt_ K) (ss:=fun c=>[(Sl.fz (tyL tyPass) c)]) (f:=fun c=>zbW_ c) 1 3 zf_ rfl zac_ fun c E=>ze8_ c
theorem zcT_ {K:Fgg}{E:XK}(c:(Option (List (List Nat)))):EvS K (zar_ K) E [(Sl.fz (tyOpt (tyL tyStr)) c),Sl.dead,Sl.dead] (zaO_ c) (fun _:Unit=>[]) (fun _:Unit=>[]) (owF tyBl) :=
 (za8_ (LS:=(fun _:Unit=>[(Sl.fz (tyOpt (tyL tyStr)) c),Sl.dead,Sl.dead])) (s_if (zlF_ (zg6_ (zE_ (zlu_ tn_l (zb_ 0 rfl)))) (zlF_ (zE_ (zJ_ zfF_ (zff_ zcg_ (ze_ (zbC_ (zb_ 0 rfl)))) (zn_ 1))) (zE_ (zJ_ zkt_ (zff_ zcg_ (ze_ (zbC_ (zb_ 0 rfl)))) (zn_ 2))))) (zbX_ (zbu_ zdi_) (EvF.ow (zj3_ false))) (zl_ (.same (.same (.same .nil))))) fun _=>(at_ [(Sl.fz (tyOpt (tyL tyStr)) c),Sl.dead,Sl.dead] (za8_ (LS:=(fun _:Unit=>[(Sl.fz (tyOpt (tyL tyStr)) c),Sl.dead,Sl.dead])) (zcJ_ (L':=[(Sl.fz (tyOpt (tyL tyStr)) c),Sl.dead,Sl.dead]) (.same (.same (.same .nil))) (zhM_ (LS:=(fun _:Unit=>[(Sl.fz (tyOpt (tyL tyStr)) c),Sl.dead,Sl.dead])) (s0:=()) (ei_l (zbC_ (zb_ 0 rfl))) (zbq_ 1) fun _ x_18=>at_ [(Sl.fz (tyOpt (tyL tyStr)) c),(Sl.fz tyStr x_18),Sl.dead] (za8_ (LS:=(fun _:Unit=>[(Sl.fz (tyOpt (tyL tyStr)) c),(Sl.fz tyStr x_18),Sl.dead])) (s_if (zlF_ (zg6_ (zE_ (zmn_ zlJ_ (zb_ 1 rfl)))) (zE_ (zJ_ zmt_ (zff_ zkv_ (ze_ (zb_ 1 rfl))) (zn_ 40)))) (zbX_ (zbu_ zdi_) (EvF.ow (zj3_ false))) (zl_ (.same (.same (.same .nil))))) fun _=>(at_ [(Sl.fz (tyOpt (tyL tyStr)) c),(Sl.fz tyStr x_18),Sl.dead] (zen_ (za8_ (LS:=(fun _:Unit=>[(Sl.fz (tyOpt (tyL tyStr)) c),(Sl.fz tyStr x_18),Sl.dead])) (zcJ_ (L':=[(Sl.fz (tyOpt (tyL tyStr)) c),(Sl.fz tyStr x_18),Sl.dead]) (.same (.same (.same .nil))) (zhM_ (LS:=(fun _:Unit=>[(Sl.fz (tyOpt (tyL tyStr)) c),(Sl.fz tyStr x_18),Sl.dead])) (s0:=()) (zme_ (zb_ 1 rfl)) (zbq_ 2) fun _ x_30=>at_ [(Sl.fz (tyOpt (tyL tyStr)) c),(Sl.fz tyStr x_18),(Sl.fz tyStr x_30)] (s_if (zE_ (zJ_ zk6_ (zb_ 2 rfl) (zbm_ SG))) (zbX_ (zbu_ zdi_) (EvF.ow (zj3_ false))) (zl_ (.same (.same (.dead .nil))))))) fun _=>(at_ [(Sl.fz (tyOpt (tyL tyStr)) c),(Sl.fz tyStr x_18),Sl.dead] (zl_ (.same (.dead (.same .nil))))))))))) fun _=>(at_ [(Sl.fz (tyOpt (tyL tyStr)) c),Sl.dead,Sl.dead] (zbX_ (zbu_ zdi_) (EvF.ow (ev_or (zJ_ zb3_ (zff_ zcg_ (ze_ (zbC_ (zb_ 0 rfl)))) (zn_ 1)) (zJ_ zi7_ (zij_ (zJ_ zdA_ (zbC_ (zb_ 0 rfl)) (zn_ 0)) (zcm_ (zn_ 36)) zcL_) (zij_ (zJ_ zdA_ (zbC_ (zb_ 0 rfl)) (zn_ 1)) (zcm_ (zn_ 36)) zcL_)))))))))
theorem zdd_ {K:Fgg}:RD_law_are_cards K:=zel_ (K:=K) (N:=Qn15) (C:=(csLast (tyOpt (tyL tyStr)))) (O:=(owF tyBl)) (t:=fun E=>zar_ K) (ss:=fun c=>[(Sl.fz (tyOpt (tyL tyStr)) c)]) (f:=fun c=>zaO_ c) 1 2 zf_ rfl zac_ fun c E=>zcT_ c
theorem zgd_ {K:Fgg}{E:XK}(c:((List (List Nat))×Pas)):EvS K (zbM_ K) E [(Sl.fz (tyL tyStr) c.1),(Sl.fz tyPass c.2),Sl.dead,Sl.dead,Sl.dead,Sl.dead] (zcr_ c.1 c.2) (fun _:Unit=>[]) (fun _:Unit=>[]) (owL tyStr) :=
 (zdM_ (i:=2) rfl z3_ (zJ_ zfS_ (zaK_ (zb_ 1 rfl)) (zn_ 1)) fun at_1=>(at_ [(Sl.fz (tyL tyStr) c.1),(Sl.fz tyPass c.2),(Sl.fz tyInt at_1),Sl.dead,Sl.dead,Sl.dead] (za8_ (LS:=(fun _:Unit=>[(Sl.fz (tyL tyStr) c.1),(Sl.fz tyPass c.2),(Sl.fz tyInt at_1),Sl.dead,Sl.dead,Sl.dead])) (s_if (zE_ (zJ_ zgk_ (zc1_ (zb_ 1 rfl)) (zbm_ [112,105,99,107]))) (zbX_ (zbl_ z4_) (zhx_ (ei_l (zb_ 0 rfl)) (zbq_ 0) (fun _=>dead1) (fun x_10=>(zE_ (zJ_ zgk_ (zJ_ zhF_ (zb_ 0 rfl) (zb_ 1 rfl)) (zb2_ (zb_ 2 rfl))))) (fun x_10=>(zb_ 0 rfl)))) (zl_ (S4 (.same (.same .nil))))) fun _=>(at_ [(Sl.fz (tyL tyStr) c.1),(Sl.fz tyPass c.2),(Sl.fz tyInt at_1),Sl.dead,Sl.dead,Sl.dead] (zcA_ (i:=3) rfl (zbl_ z4_) (zeu_ tyStr) fun found_18=>(at_ [(Sl.fz (tyL tyStr) c.1),(Sl.fz tyPass c.2),(Sl.fz tyInt at_1),(Sl.ow (owL tyStr) found_18),Sl.dead,Sl.dead] (za8_ (LS:=(fun s_19:(List (List Nat))=>[(Sl.fz (tyL tyStr) c.1),(Sl.fz tyPass c.2),(Sl.fz tyInt at_1),(Sl.ow (owL tyStr) s_19),Sl.dead,Sl.dead])) (zcJ_ (L':=[(Sl.fz (tyL tyStr) c.1),(Sl.fz tyPass c.2),(Sl.fz tyInt at_1),(Sl.ow (owL tyStr) found_18),Sl.dead,Sl.dead]) (S4 (.same (.same .nil))) (zhM_ (LS:=(fun s_19:(List (List Nat))=>[(Sl.fz (tyL tyStr) c.1),(Sl.fz tyPass c.2),(Sl.fz tyInt at_1),(Sl.ow (owL tyStr) s_19),Sl.dead,Sl.dead])) (s0:=found_18) (ei_l (zb_ 0 rfl)) (zbq_ 4) fun s_19 x_20=>at_ [(Sl.fz (tyL tyStr) c.1),(Sl.fz tyPass c.2),(Sl.fz tyInt at_1),(Sl.ow (owL tyStr) s_19),(Sl.fz tyStr x_20),Sl.dead] (zdM_ (i:=5) rfl z3_ (zff_ zcg_ (ze_ (zdN_ 3 rfl))) fun here_21=>(at_ [(Sl.fz (tyL tyStr) c.1),(Sl.fz tyPass c.2),(Sl.fz tyInt at_1),(Sl.ow (owL tyStr) s_19),(Sl.fz tyStr x_20),(Sl.fz tyInt here_21)] (za8_ (LS:=(fun s_23:Int=>[(Sl.fz (tyL tyStr) c.1),(Sl.fz tyPass c.2),(Sl.fz tyInt at_1),(Sl.ow (owL tyStr) s_19),(Sl.fz tyStr x_20),(Sl.fz tyInt s_23)])) (zcJ_ (L':=[(Sl.fz (tyL tyStr) c.1),(Sl.fz tyPass c.2),(Sl.fz tyInt at_1),(Sl.ow (owL tyStr) s_19),(Sl.fz tyStr x_20),(Sl.fz tyInt here_21)]) (S4 (.same (.same .nil))) (ziD_ (LS:=(fun s_23:Int=>[(Sl.fz (tyL tyStr) c.1),(Sl.fz tyPass c.2),(Sl.fz tyInt at_1),(Sl.ow (owL tyStr) s_19),(Sl.fz tyStr x_20),(Sl.fz tyInt s_23)])) (s0:=here_21) fuelW (fun s_23=>(zd3_ (zE_ (zJ_ zkt_ (zb_ 5 rfl) (zn_ 0))) (zE_ (zJ_ zka_ (zJ_ zhF_ (zb_ 4 rfl) (zb_ 2 rfl)) (zJ_ zhF_ (zJ_ zdA_ (zdN_ 3 rfl) (zJ_ zfS_ (zb_ 5 rfl) (zn_ 1))) (zb_ 2 rfl)))))) fun s_23=>at_ [(Sl.fz (tyL tyStr) c.1),(Sl.fz tyPass c.2),(Sl.fz tyInt at_1),(Sl.ow (owL tyStr) s_19),(Sl.fz tyStr x_20),(Sl.fz tyInt s_23)] (zen_ (zdM_ (i:=5) rfl z3_ (zJ_ zfS_ (zb_ 5 rfl) (zn_ 1)) fun here_37=>(at_ [(Sl.fz (tyL tyStr) c.1),(Sl.fz tyPass c.2),(Sl.fz tyInt at_1),(Sl.ow (owL tyStr) s_19),(Sl.fz tyStr x_20),(Sl.fz tyInt here_37)] (zl_ (S4 (.same (.same .nil))))))))) fun s_23=>(at_ [(Sl.fz (tyL tyStr) c.1),(Sl.fz tyPass c.2),(Sl.fz tyInt at_1),(Sl.ow (owL tyStr) s_19),(Sl.fz tyStr x_20),(Sl.fz tyInt s_23)] (zen_ (zjt_ (i:=3) rfl z4_ (zb_ 5 rfl) (zb_ 4 rfl) fun j_40 a_41=>(at_ [(Sl.fz (tyL tyStr) c.1),(Sl.fz tyPass c.2),(Sl.fz tyInt at_1),(Sl.ow (owL tyStr) (insL s_19 j_40 a_41)),(Sl.fz tyStr x_20),(Sl.fz tyInt s_23)] (zl_ (S4 (.dead (.dead .nil))))))))))))) fun s_19=>(at_ [(Sl.fz (tyL tyStr) c.1),(Sl.fz tyPass c.2),(Sl.fz tyInt at_1),(Sl.ow (owL tyStr) s_19),Sl.dead,Sl.dead] (zly_ (i:=3) rfl)))))))))
theorem zgh_ {K:Fgg}:RD_law_done K:=zel_ (K:=K) (N:=Qn5) (C:=(csCons (tyL tyStr) (csLast tyPass))) (O:=(owL tyStr)) (t:=fun E=>zbM_ K) (ss:=fun c=>[(Sl.fz (tyL tyStr) c.1),(Sl.fz tyPass c.2)]) (f:=fun c=>zcr_ c.1 c.2) 2 4 (zg_ zf_) rfl (zX_ zac_) fun c E=>zgd_ c
theorem zdD_ {K:Fgg}{E:XK}(c:((List (List Nat))×(List Pas))):EvS K (zaD_ K) E [(Sl.fz (tyL tyStr) c.1),(Sl.fz (tyL tyPass) c.2),Sl.dead,Sl.dead] (za1_ c.1 c.2) (fun _:Unit=>[]) (fun _:Unit=>[]) (owL tyStr) :=
 (zcA_ (i:=2) rfl (zbl_ z4_) (zdY_ zeC_ (ze_ (zb_ 0 rfl))) fun found_1=>(at_ [(Sl.fz (tyL tyStr) c.1),(Sl.fz (tyL tyPass) c.2),(Sl.ow (owL tyStr) found_1),Sl.dead] (za8_ (LS:=(fun s_3:(List (List Nat))=>[(Sl.fz (tyL tyStr) c.1),(Sl.fz (tyL tyPass) c.2),(Sl.ow (owL tyStr) s_3),Sl.dead])) (zcJ_ (L':=[(Sl.fz (tyL tyStr) c.1),(Sl.fz (tyL tyPass) c.2),(Sl.ow (owL tyStr) found_1),Sl.dead]) (S4 .nil) (zhM_ (LS:=(fun s_3:(List (List Nat))=>[(Sl.fz (tyL tyStr) c.1),(Sl.fz (tyL tyPass) c.2),(Sl.ow (owL tyStr) s_3),Sl.dead])) (s0:=found_1) (ei_l (zb_ 1 rfl)) (zbq_ 3) fun s_3 x_4=>at_ [(Sl.fz (tyL tyStr) c.1),(Sl.fz (tyL tyPass) c.2),(Sl.ow (owL tyStr) s_3),(Sl.fz tyPass x_4)] (zen_ (zcA_ (i:=2) rfl (zbl_ z4_) (zb1_ (zk_ (zdN_ 2 rfl) (ze_ (zb_ 3 rfl)))) fun found_5=>(at_ [(Sl.fz (tyL tyStr) c.1),(Sl.fz (tyL tyPass) c.2),(Sl.ow (owL tyStr) found_5),(Sl.fz tyPass x_4)] (zl_ (.same (.same (.same (.dead .nil)))))))))) fun s_3=>(at_ [(Sl.fz (tyL tyStr) c.1),(Sl.fz (tyL tyPass) c.2),(Sl.ow (owL tyStr) s_3),Sl.dead] (zly_ (i:=2) rfl)))))
theorem zdq_ {K:Fgg}:RD_law_all_done K:=zel_ (K:=K) (N:=Qn11) (C:=(csCons (tyL tyStr) (csLast (tyL tyPass)))) (O:=(owL tyStr)) (t:=fun E=>zaD_ K) (ss:=fun c=>[(Sl.fz (tyL tyStr) c.1),(Sl.fz (tyL tyPass) c.2)]) (f:=fun c=>za1_ c.1 c.2) 2 2 (zg_ zf_) rfl (zX_ zac_) fun c E=>zdD_ c
theorem zeD_ {K:Fgg}{E:XK}(c:((Option (List (List Nat)))×((List Pas)×(List Pas)))):EvS K (za3_ K) E [(Sl.fz (tyOpt (tyL tyStr)) c.1),(Sl.fz (tyL tyPass) c.2.1),(Sl.fz (tyL tyPass) c.2.2)] (za6_ c.1 c.2.1 c.2.2) (fun _:Unit=>[]) (fun _:Unit=>[]) (owF tyBl) :=
 (za8_ (LS:=(fun _:Unit=>[(Sl.fz (tyOpt (tyL tyStr)) c.1),(Sl.fz (tyL tyPass) c.2.1),(Sl.fz (tyL tyPass) c.2.2)])) (s_if (zE_ (zJ_ ziA_ (zo_ (ze_ (zb_ 1 rfl))) (zo_ (ze_ (zb_ 2 rfl))))) (zbX_ (zbu_ zdi_) (EvF.ow (zJ_ zcD_ (zb_ 0 rfl) zez_))) (zl_ (.same (.same (.same .nil))))) fun _=>(at_ [(Sl.fz (tyOpt (tyL tyStr)) c.1),(Sl.fz (tyL tyPass) c.2.1),(Sl.fz (tyL tyPass) c.2.2)] (za8_ (LS:=(fun _:Unit=>[(Sl.fz (tyOpt (tyL tyStr)) c.1),(Sl.fz (tyL tyPass) c.2.1),(Sl.fz (tyL tyPass) c.2.2)])) (s_if (zg6_ (zE_ (zo_ (ze_ (zb_ 0 rfl))))) (zbX_ (zbu_ zdi_) (EvF.ow (zj3_ false))) (zl_ (.same (.same (.same .nil))))) fun _=>(at_ [(Sl.fz (tyOpt (tyL tyStr)) c.1),(Sl.fz (tyL tyPass) c.2.1),(Sl.fz (tyL tyPass) c.2.2)] (zbX_ (zbu_ zdi_) (EvF.ow (zJ_ (zl7_ (zjI_ ziV_)) (EvO.fr (zb1_ (zk_ (zbC_ (zb_ 0 rfl)) (ze_ (zb_ 1 rfl))))) (EvO.fr (zb1_ (zk_ (zbC_ (zb_ 0 rfl)) (ze_ (zb_ 2 rfl))))))))))))
theorem zeS_ {K:Fgg}:RD_law_parted K:=zel_ (K:=K) (N:=Qn2) (C:=(csCons (tyOpt (tyL tyStr)) (csCons (tyL tyPass) (csLast (tyL tyPass))))) (O:=(owF tyBl)) (t:=fun E=>za3_ K) (ss:=fun c=>[(Sl.fz (tyOpt (tyL tyStr)) c.1),(Sl.fz (tyL tyPass) c.2.1),(Sl.fz (tyL tyPass) c.2.2)]) (f:=fun c=>za6_ c.1 c.2.1 c.2.2) 3 0 (zg_ (zg_ zf_)) rfl (zX_ (zX_ zac_)) fun c E=>zeD_ c
theorem zmi_ {K:Fgg}{E:XK}(c:(List Int)):EvS K (zll_ K) E [(Sl.fz (tySc K) c),Sl.dead,Sl.dead,Sl.dead,Sl.dead,Sl.dead,Sl.dead,Sl.dead,Sl.dead,Sl.dead,Sl.dead,Sl.dead] (zlB_ c) (fun _:Unit=>[]) (fun _:Unit=>[]) (owF tyBl) :=
 (zdM_ (i:=1) rfl z4_ (zbm_ SG) fun signs_1=>(at_ [(Sl.fz (tySc K) c),(Sl.fz tyStr signs_1),Sl.dead,Sl.dead,Sl.dead,Sl.dead,Sl.dead,Sl.dead,Sl.dead,Sl.dead,Sl.dead,Sl.dead] (zdM_ (i:=2) rfl z3_ (zo_ (zk_ (zb_ 0 rfl) (ze_ (zn_ 0)))) fun ways_2=>(at_ [(Sl.fz (tySc K) c),(Sl.fz tyStr signs_1),(Sl.fz tyInt ways_2),Sl.dead,Sl.dead,Sl.dead,Sl.dead,Sl.dead,Sl.dead,Sl.dead,Sl.dead,Sl.dead] (zdM_ (i:=3) rfl z3_ (zJ_ zbG_ (zo_ (zk_ (zb_ 0 rfl) (ze_ (zn_ 1)))) (zn_ 36)) fun start_6=>(at_ [(Sl.fz (tySc K) c),(Sl.fz tyStr signs_1),(Sl.fz tyInt ways_2),(Sl.fz tyInt start_6),Sl.dead,Sl.dead,Sl.dead,Sl.dead,Sl.dead,Sl.dead,Sl.dead,Sl.dead] (zdM_ (i:=4) rfl z4_ (zJ_ ziO_ (zij_ (zb_ 1 rfl) (zcm_ (zb_ 3 rfl)) zcL_) (zij_ (zb_ 1 rfl) zcL_ (zcm_ (zb_ 3 rfl)))) fun hero_12=>(at_ [(Sl.fz (tySc K) c),(Sl.fz tyStr signs_1),(Sl.fz tyInt ways_2),(Sl.fz tyInt start_6),(Sl.fz tyStr hero_12),Sl.dead,Sl.dead,Sl.dead,Sl.dead,Sl.dead,Sl.dead,Sl.dead] (zdM_ (i:=5) rfl z3_ (zJ_ zdA_ (EvO.fr (zb0_ (zg_ (zg_ (zg_ zf_))) (zcw_ (zcw_ (zcw_ zas_))) (zk_ (zn_ 2) (zk_ (zn_ 1) (zk_ (zn_ 4) (ze_ (zn_ 36))))))) (zJ_ zbG_ (zb_ 2 rfl) (zn_ 4))) fun reach_23=>(at_ [(Sl.fz (tySc K) c),(Sl.fz tyStr signs_1),(Sl.fz tyInt ways_2),(Sl.fz tyInt start_6),(Sl.fz tyStr hero_12),(Sl.fz tyInt reach_23),Sl.dead,Sl.dead,Sl.dead,Sl.dead,Sl.dead,Sl.dead] (zcA_ (i:=6) rfl (zbl_ zaa_) (zeu_ tyPass) fun row_35=>(at_ [(Sl.fz (tySc K) c),(Sl.fz tyStr signs_1),(Sl.fz tyInt ways_2),(Sl.fz tyInt start_6),(Sl.fz tyStr hero_12),(Sl.fz tyInt reach_23),(Sl.ow (owL tyPass) row_35),Sl.dead,Sl.dead,Sl.dead,Sl.dead,Sl.dead] (za8_ (LS:=(fun s_36:(List Pas)=>[(Sl.fz (tySc K) c),(Sl.fz tyStr signs_1),(Sl.fz tyInt ways_2),(Sl.fz tyInt start_6),(Sl.fz tyStr hero_12),(Sl.fz tyInt reach_23),(Sl.ow (owL tyPass) s_36),Sl.dead,Sl.dead,Sl.dead,Sl.dead,Sl.dead])) (zcJ_ (L':=[(Sl.fz (tySc K) c),(Sl.fz tyStr signs_1),(Sl.fz tyInt ways_2),(Sl.fz tyInt start_6),(Sl.fz tyStr hero_12),(Sl.fz tyInt reach_23),(Sl.ow (owL tyPass) row_35),Sl.dead,Sl.dead,Sl.dead,Sl.dead,Sl.dead]) (S4 (S4 (S4 .nil))) (zhM_ (LS:=(fun s_36:(List Pas)=>[(Sl.fz (tySc K) c),(Sl.fz tyStr signs_1),(Sl.fz tyInt ways_2),(Sl.fz tyInt start_6),(Sl.fz tyStr hero_12),(Sl.fz tyInt reach_23),(Sl.ow (owL tyPass) s_36),Sl.dead,Sl.dead,Sl.dead,Sl.dead,Sl.dead])) (s0:=row_35) (ei_l (EvO.fr (zk9_ (zb_ 0 rfl) (zcm_ (zn_ 4)) (zcm_ (zn_ 44))))) (zbq_ 7) fun s_36 x_42=>at_ [(Sl.fz (tySc K) c),(Sl.fz tyStr signs_1),(Sl.fz tyInt ways_2),(Sl.fz tyInt start_6),(Sl.fz tyStr hero_12),(Sl.fz tyInt reach_23),(Sl.ow (owL tyPass) s_36),(Sl.fz tyInt x_42),Sl.dead,Sl.dead,Sl.dead,Sl.dead] (zen_ (zfl_ (i:=6) rfl zaa_ (zo_ (zk_ (zb_ 7 rfl) (zk_ (zb_ 4 rfl) (zk_ (zb_ 3 rfl) (zk_ (zb_ 5 rfl) (ze_ (zJ_ zdA_ (EvO.fr (zb0_ (zg_ (zg_ zf_)) (zcw_ (zcw_ zas_)) (zk_ (zn_ 2) (zk_ (zn_ 0) (ze_ (zn_ 4)))))) (zJ_ zbG_ (zJ_ zcR_ (zb_ 2 rfl) (zn_ 4)) (zn_ 3))))))))) fun a_63=>(at_ [(Sl.fz (tySc K) c),(Sl.fz tyStr signs_1),(Sl.fz tyInt ways_2),(Sl.fz tyInt start_6),(Sl.fz tyStr hero_12),(Sl.fz tyInt reach_23),(Sl.ow (owL tyPass) (s_36++[a_63])),(Sl.fz tyInt x_42),Sl.dead,Sl.dead,Sl.dead,Sl.dead] (zl_ (S4 (.same (.same (.same (.dead (S4 .nil)))))))))))) fun s_36=>(at_ [(Sl.fz (tySc K) c),(Sl.fz tyStr signs_1),(Sl.fz tyInt ways_2),(Sl.fz tyInt start_6),(Sl.fz tyStr hero_12),(Sl.fz tyInt reach_23),(Sl.ow (owL tyPass) s_36),Sl.dead,Sl.dead,Sl.dead,Sl.dead,Sl.dead] (zdM_ (i:=8) rfl zaa_ (zo_ (zk_ (zJ_ zcR_ (zo_ (zk_ (zb_ 0 rfl) (ze_ (zn_ 3)))) (zn_ 11)) (zk_ (zb_ 4 rfl) (zk_ (zb_ 3 rfl) (zk_ (zJ_ zaW_ (zb_ 5 rfl) (zn_ 1)) (ze_ (zn_ 4))))))) fun one_65=>(at_ [(Sl.fz (tySc K) c),(Sl.fz tyStr signs_1),(Sl.fz tyInt ways_2),(Sl.fz tyInt start_6),(Sl.fz tyStr hero_12),(Sl.fz tyInt reach_23),(Sl.ow (owL tyPass) s_36),Sl.dead,(Sl.fz tyPass one_65),Sl.dead,Sl.dead,Sl.dead] (zcA_ (i:=9) rfl (zbl_ zaa_) (zb1_ (zk_ (zdN_ 6 rfl) (zk_ (zJ_ zbG_ (zo_ (zk_ (zb_ 0 rfl) (ze_ (zn_ 3)))) (zn_ 11)) (zk_ (zo_ (zk_ (zb_ 0 rfl) (ze_ (zn_ 2)))) (ze_ (zb_ 8 rfl)))))) fun other_82=>zjr_ (i:=9) rfl (at_ [(Sl.fz (tySc K) c),(Sl.fz tyStr signs_1),(Sl.fz tyInt ways_2),(Sl.fz tyInt start_6),(Sl.fz tyStr hero_12),(Sl.fz tyInt reach_23),(Sl.ow (owL tyPass) s_36),Sl.dead,(Sl.fz tyPass one_65),(Sl.fz (tyL tyPass) other_82),Sl.dead,Sl.dead] (zjr_ (i:=6) rfl (at_ [(Sl.fz (tySc K) c),(Sl.fz tyStr signs_1),(Sl.fz tyInt ways_2),(Sl.fz tyInt start_6),(Sl.fz tyStr hero_12),(Sl.fz tyInt reach_23),(Sl.fz (tyL tyPass) s_36),Sl.dead,(Sl.fz tyPass one_65),(Sl.fz (tyL tyPass) other_82),Sl.dead,Sl.dead] (zfA_ (i:=10) rfl (ev_hl (zg_ zf_) (zk_ (EvO.fr (zdY_ zeC_ (ze_ (zb_ 6 rfl)))) (ze_ (EvO.fr (zdY_ zeC_ (ze_ (zb_ 9 rfl))))))) fun handed_98=>(at_ [(Sl.fz (tySc K) c),(Sl.fz tyStr signs_1),(Sl.fz tyInt ways_2),(Sl.fz tyInt start_6),(Sl.fz tyStr hero_12),(Sl.fz tyInt reach_23),(Sl.fz (tyL tyPass) s_36),Sl.dead,(Sl.fz tyPass one_65),(Sl.fz (tyL tyPass) other_82),(Sl.fz (tyH (csCons (tyL tyPass) (csLast (tyL tyPass)))) handed_98),Sl.dead] (zfA_ (i:=11) rfl (zo_ (zk_ (zkE_ (i:=0) at_0 (zb_ 10 rfl)) (ze_ (zkE_ (i:=1) (at_s zht_) (zb_ 10 rfl))))) fun found_108=>(at_ [(Sl.fz (tySc K) c),(Sl.fz tyStr signs_1),(Sl.fz tyInt ways_2),(Sl.fz tyInt start_6),(Sl.fz tyStr hero_12),(Sl.fz tyInt reach_23),(Sl.fz (tyL tyPass) s_36),Sl.dead,(Sl.fz tyPass one_65),(Sl.fz (tyL tyPass) other_82),(Sl.fz (tyH (csCons (tyL tyPass) (csLast (tyL tyPass)))) handed_98),(Sl.fz (tyOpt (tyL tyStr)) found_108)] (za8_ (LS:=(fun _:Unit=>[(Sl.fz (tySc K) c),(Sl.fz tyStr signs_1),(Sl.fz tyInt ways_2),(Sl.fz tyInt start_6),(Sl.fz tyStr hero_12),(Sl.fz tyInt reach_23),(Sl.fz (tyL tyPass) s_36),Sl.dead,(Sl.fz tyPass one_65),(Sl.fz (tyL tyPass) other_82),(Sl.fz (tyH (csCons (tyL tyPass) (csLast (tyL tyPass)))) handed_98),(Sl.fz (tyOpt (tyL tyStr)) found_108)])) (s_if (zlF_ (zg6_ (zE_ (zo_ (zk_ (zb_ 11 rfl) (zk_ (zb_ 6 rfl) (ze_ (zb_ 9 rfl))))))) (zE_ (zJ_ (zl9_ (eqt_h (zja_ (zjI_ ze4_) (zjb_ (zjI_ ze4_))))) (zb_ 10 rfl) (ev_hl (zg_ zf_) (zk_ (zb_ 6 rfl) (ze_ (zb_ 9 rfl))))))) (zbX_ (zbu_ zdi_) (EvF.ow (zj3_ false))) (zl_ (S4 (S4 (S4 .nil))))) fun _=>(at_ [(Sl.fz (tySc K) c),(Sl.fz tyStr signs_1),(Sl.fz tyInt ways_2),(Sl.fz tyInt start_6),(Sl.fz tyStr hero_12),(Sl.fz tyInt reach_23),(Sl.fz (tyL tyPass) s_36),Sl.dead,(Sl.fz tyPass one_65),(Sl.fz (tyL tyPass) other_82),(Sl.fz (tyH (csCons (tyL tyPass) (csLast (tyL tyPass)))) handed_98),(Sl.fz (tyOpt (tyL tyStr)) found_108)] (za8_ (LS:=(fun _:Unit=>[(Sl.fz (tySc K) c),(Sl.fz tyStr signs_1),(Sl.fz tyInt ways_2),(Sl.fz tyInt start_6),(Sl.fz tyStr hero_12),(Sl.fz tyInt reach_23),(Sl.fz (tyL tyPass) s_36),Sl.dead,(Sl.fz tyPass one_65),(Sl.fz (tyL tyPass) other_82),(Sl.fz (tyH (csCons (tyL tyPass) (csLast (tyL tyPass)))) handed_98),(Sl.fz (tyOpt (tyL tyStr)) found_108)])) (s_if (zg6_ (zE_ (zo_ (zk_ (zo_ (zk_ (zb_ 9 rfl) (ze_ (zb_ 6 rfl)))) (zk_ (zb_ 9 rfl) (ze_ (zb_ 6 rfl))))))) (zbX_ (zbu_ zdi_) (EvF.ow (zj3_ false))) (zl_ (S4 (S4 (S4 .nil))))) fun _=>(at_ [(Sl.fz (tySc K) c),(Sl.fz tyStr signs_1),(Sl.fz tyInt ways_2),(Sl.fz tyInt start_6),(Sl.fz tyStr hero_12),(Sl.fz tyInt reach_23),(Sl.fz (tyL tyPass) s_36),Sl.dead,(Sl.fz tyPass one_65),(Sl.fz (tyL tyPass) other_82),(Sl.fz (tyH (csCons (tyL tyPass) (csLast (tyL tyPass)))) handed_98),(Sl.fz (tyOpt (tyL tyStr)) found_108)] (zbX_ (zbu_ zdi_) (EvF.ow (zmg_ (zJ_ zcD_ (zo_ (zk_ (zb_ 6 rfl) (ze_ (EvO.fr (zdY_ zeC_ (ze_ (zb_ 6 rfl))))))) zez_) (zo_ (zk_ (zb_ 11 rfl) (zk_ (zb_ 6 rfl) (ze_ (zb_ 9 rfl))))))))))))))))))))))))))))))))))))
theorem ziy_ (hf:∀ ns:List Int,ns.length≤63→BitsOk ns→zlE_ ns=.ok true) {K:Fgg}:RD_law K:=by
 rintro vs H Q E ⟨a,ns,rfl,hS,hl,hb,q⟩
 refine zel_ (K:=K) (N:=Qn0) (C:=(csLast (tySc K))) (O:=owF tyBl) (t:=fun E=>zll_ K) (ss:=fun c=>[(Sl.fz (tySc K) c)]) (f:=fun c=>zlB_ c) 1 11 zf_ rfl zac_ (fun c E=>zmi_ c) _ H Q E ⟨H,ns,Same.refl _,⟨_,rfl,a,rfl,hS⟩,?_⟩
 show After K (zlE_ ns) E H H _
 rw [hf ns hl hb]
 rintro F' H' x v h _ _ _ ⟨_,rfl⟩
 exact q H'
end K17
namespace K17
open PySem PySem.Spec PyProof.Rows L2
local macro_rules | `(tactic| walk_at "mo") => `(tactic| simp only [Mo.okB, Mo.exB, Mo.noB, Mo.noexO, Mo.optS, zjW_, zjy_, zjQ_, zjc_, zl6_, zj1_, zk4_, zhq_, zjd_, grd_T, Bool.not_true, Bool.not_false, if_true, if_false, Bool.false_eq_true, Option.map_some, Option.map_none, ite_true, ite_false, Int.reduceLT, Int.reduceLE, Int.reduceNeg, Int.reduceSub, Int.reduceAdd, Int.reduceMul, Nat.reduceAdd, Nat.reduceLT, decide_true, decide_false, Option.isSome_none, Option.isSome_some, Option.isNone_none, Option.isNone_some, Bool.and_true, Bool.and_false])
theorem lim40 {α:Type}{c:Crd}(h:isC c) (k:Mo α):Mo.lim c.length k=k:=Mo.lim_ok (by rw [h.1]; lia)
theorem zl4_ (k:Int):∃ x,atI SG (k % 37)=some x∧x∈SG:=zb6_ (xs:=SG) (Int.emod_nonneg _ (by decide)) (Int.emod_lt_of_pos _ (by decide))
theorem limSG {α:Type}(k:Mo α):Mo.lim SG.length k=k:=Mo.lim_ok (by decide)
noncomputable def psOk (p:Pas):Prop:=(1≤p.1∧p.1≤36)∧∀ s,p.2=some s→∃ x,s=[x]∧x∈SG
theorem psOk.col {p:Pas}(h:psOk p):colOk p.1:=⟨h.1.1,by have:=h.1.2; lia⟩
noncomputable def doP (d:List Crd) (p:Pas):List Crd:=match p.2 with | none=>sK (kv [p.1]) d | some s=>d.filter fun x=>decide ([sg x p.1]=s)
theorem zk1_ {d:List Crd}{p:Pas}{x:Crd}(h:x∈doP d p):x∈d:=by
 obtain ⟨c,o⟩:=p
 cases o with
 | none=>exact (zgT_ d).mp h
 | some s=>exact (List.mem_filter.mp h).1
theorem zkf_ (d:List Crd) (p:Pas):(doP d p).length≤d.length:=by
 obtain ⟨c,o⟩:=p
 cases o with
 | none=>show (sK _ d).length≤_; rw [zkG_]; exact Nat.le_refl _
 | some s=>exact List.length_filter_le _ _
theorem zjm_ {row:List Pas}:∀ {d:List Crd}{x:Crd},x∈row.foldl doP d→x∈d:=by
 induction row with
 | nil=>exact fun h=>h
 | cons p row ih=>exact fun h=>zk1_ (ih h)
theorem zjU_ (row:List Pas):∀ (d:List Crd),(row.foldl doP d).length≤d.length:=by
 induction row with
 | nil=>exact fun d=>Nat.le_refl _
 | cons p row ih=>exact fun d=>Nat.le_trans (ih _) (zkf_ d p)
theorem zlf_ {x y:Nat}(hx:x∈SG) (hy:y∈SG):(x≤y↔rk1 x≤rk1 y):=by
 have:∀ x∈SG,∀ y∈SG,(x≤y↔rk1 x≤rk1 y):=by decide +kernel
 exact this x hx y hy
theorem zkj_ {d:List Crd}{c:Int}(hd:∀ x∈d,isC x) (hc:colOk c):sK (fun x=>sg x c) d=sK (kv [c]) d:=by
 refine zg2_ d fun a ha b hb=>?_
 have:=zlf_ (zkq_ (hd a ha) hc).2 (zkq_ (hd b hb) hc).2
 show _↔rnk a c*1+0≤rnk b c*1+0
 unfold rnk
 lia
theorem zk5_ {d:List Crd}{p:Pas}(hd:∀ c∈d,isC c) (hp:psOk p) (hl:d.length≤1000):zcs_ d p=.ok (doP d p):=by
 unfold zcs_ zcr_
 walk_at "mo"
 obtain ⟨c,o⟩:=p
 have hc:colOk c:=hp.col
 cases o with
 | some s =>
  have e:decide (pTag (c,some s)=[112,105,99,107])=true:=rfl
  simp only [e]
  walk_at "mo"
  rw [zc2_ (g:=fun x=>decide ([sg x c]=s)) (fun x hx=>?_) (by simpa using (by lia:d.length≤100000))]
  ·rfl
  ·unfold cond1
   rw [lim40 (hd x hx),(zkq_ (hd x hx) hc).1]
   walk_at "mo"
   by_cases h:[sg x c]=s
   ·rw [decide_eq_true h]; rfl
   ·rw [decide_eq_false h]; rfl
 | none =>
  have e:decide (pTag (c,none)=[112,105,99,107])=false:=by show decide (([100,101,97,108]:List Nat)=[112,105,99,107])=false; decide
  simp only [e]
  walk_at "mo"
  show _=Mo.ok (sK (kv [c]) d)
  rw [← zkj_ hd hc]
  refine zbT_ (G:=fun m=>fnO (thenO m _)=.ok (sK (fun x=>sg x c) d)) (fun dn s=>s=sK (fun x=>sg x c) dn) rfl ?_ ?_
  ·rintro dn x s ⟨r,hr⟩ rfl
   have hx:isC x:=hd x (by rw [hr]; simp)
   have hdn:∀ y∈dn,isC y:=fun y hy=>hd y (by rw [hr]; simp [hy])
   have hdl:dn.length≤1000:=by have:=congrArg List.length hr; rw [List.length_append] at this; lia
   generalize hs:sK (fun x=>sg x c) dn=s
   have hsl:s.length≤1000:=by rw [← hs,zkG_]; exact hdl
   have hsm:∀ y∈s,isC y:=fun y hy=>hdn y (by rw [← hs] at hy; exact (zgT_ dn).mp hy)
   let p:=fun y:Crd=>decide (sg x c<sg y c)
   rw [zdQ_ (f:=fun n=>insAt p s n) (fun i=>match s[i-1]? with | some y=>p y | none=>false) fuelW s.length (by rw [zgJ_]; lia) (fun i h1 h2=>?_) rfl (fun i hi=>?_) rfl]
   ·walk_at "mo"
    have hle:insAt p s s.length≤s.length:=by
     have hsp:=zcP_ (zh9_ (fun x=>sg x c) dn) (sg x c)
     rw [hs] at hsp
     rw [hsp,zhJ_ (fun y hy=>?_) (fun y hy=>?_),List.length_append]
     ·lia
     ·have:=(List.mem_filter.mp hy).2; simp at this; show decide (sg x c<sg y c)=false; simp; lia
     ·have:=(List.mem_filter.mp hy).2; exact this
    rw [Mo.grd_ok ⟨by lia,by lia⟩,Mo.lim_ok (by lia),← hs,zky_ (zh9_ (fun x=>sg x c) dn) x p (fun y=>rfl)]
    exact ⟨_,rfl,by rw [zbL_]⟩
   ·have hi:i-1<s.length:=by lia
    have e:atI s ((i:Int)-1)=some s[i-1]:=by
     rw [show ((i:Int)-1)=((i-1:Nat):Int) by lia,zgg_ (by lia),Int.toNat_natCast,List.getElem?_eq_getElem hi]
    have hy:=hsm _ (List.getElem_mem hi)
    rw [decide_eq_true (show (0:Int)<i by lia),if_pos rfl,lim40 hx,(zkq_ hx hc).1,e]
    walk_at "mo"
    rw [lim40 hy,(zkq_ hy hc).1,List.getElem?_eq_getElem hi]
    refine ⟨?_,?_⟩
    ·show Mo.ok (decide ([sg x c]<[sg s[i-1] c]))=Mo.ok (decide (sg x c<sg s[i-1] c))
     congr 1
     rw [decide_eq_decide]
     generalize sg x c=u
     generalize sg s[i-1] c=v
     constructor
     ·intro h; cases h with
      | rel h=>exact h
      | cons h=>cases h
     ·intro h; exact List.Lex.rel h
    ·first | rfl | trivial
   ·show insAt _ _ (i+1)=_
    rw [show insAt p s (i+1)=(match s[i]? with | some y=>if p y then insAt p s i else i+1 | none=>0) from rfl,show i+1-1=i by lia,List.getElem?_eq_getElem hi]
  ·rintro s rfl
   rfl
noncomputable def heroOk (h:List Nat):Prop:=h.length=37∧∀ x∈h,x∈SG
theorem zi2_ (cell:Int) {hero:List Nat}(hh:heroOk hero) (start:Int) {reach:Int}(hr:0<reach) (share:Int):∃ p,zbJ_ cell hero start reach share=.ok p∧psOk p:=by
 unfold zbJ_ zce_
 walk_at "mo"
 rw [Mo.grd_ok (zeF_ (.inl ⟨by lia,by lia⟩))]
 walk_at "mo"
 rw [zhq_ hr]
 walk_at "mo"
 generalize (cell % 2147483647+69621)*(cell % 2147483647+69621) % 2147483629=n
 have hc:1≤1+(start+n / 8 % reach) % 36∧1+(start+n / 8 % reach) % 36≤36:=by lia
 generalize 1+(start+n / 8 % reach) % 36=col at hc
 by_cases h1:share≤n % 8
 ·rw [decide_eq_true h1]
  walk_at "mo"
  exact ⟨_,rfl,hc,fun s z=>by cases z⟩
 ·rw [decide_eq_false h1]
  walk_at "mo"
  by_cases h2:n / 512 % 7=1
  ·rw [decide_eq_true h2]
   walk_at "mo"
   obtain ⟨y,ey,hy⟩:=zl4_ (n / 4096)
   rw [limSG,ey]
   walk_at "mo"
   exact ⟨_,rfl,hc,fun s z=>by cases z; exact ⟨y,rfl,hy⟩⟩
  ·rw [decide_eq_false h2]
   walk_at "mo"
   obtain ⟨y,ey,hy⟩:=zb6_ (xs:=hero) (k:=col-1) (by lia) (by rw [hh.1]; lia)
   rw [Mo.lim_ok (by rw [hh.1]; lia),ey]
   walk_at "mo"
   exact ⟨_,rfl,hc,fun s z=>by cases z; exact ⟨y,rfl,hh.2 y hy⟩⟩
theorem zfJ_ {α S B ρ:Type}{step:S→α→Mo (Out ρ S S)}{xs:List α}{s:S}{G:Mo (Out ρ B S)→Prop}(P:List α→S→Prop) (h0:P [] s)
  (hs:∀ d x s,(∃ r,xs=d++x::r)→P d s→(∃ s',step s x=.ok (.nx s')∧P (d++[x]) s')∨∃ a,step s x=.ok (.rt a)∧G (.ok (.rt a))) (hk:∀ s',P xs s'→G (.ok (.nx s'))):G (forO step xs s):=by
 have all:∀ (r d:List α) (s:S),xs=d++r→P d s→G (forO step r s):=by
  intro r
  induction r with
  | nil=>intro d s e p; rw [List.append_nil] at e; subst e; exact hk s p
  | cons x r ih =>
   intro d s e p
   rcases hs d x s ⟨r,e⟩ p with ⟨s',e1,p'⟩ | ⟨a,e1,g⟩
   ·show G ((step s x).bind _)
    rw [e1]
    exact ih (d++[x]) s' (by rw [e]; simp) p'
   ·show G ((step s x).bind _)
    rw [e1]
    exact g
 exact all xs [] s rfl h0
theorem ziu_ {k:Crd→Nat}(p:Crd→Bool) (xs:List Crd):(sK k xs).filter p=sK k (xs.filter p):=by
 refine zaU_ (P:=fun xs=>(sK k xs).filter p=sK k (xs.filter p)) rfl (fun xs x ih=>?_) xs
 have hs:=zh9_ k xs
 rw [zbL_,List.filter_append]
 by_cases hx:p x=true
 ·rw [show [x].filter p=[x] by simp [hx],zbL_,← ih]
  unfold insK
  rw [List.filter_append,List.filter_cons,if_pos hx]
  simp only [List.filter_filter,Bool.and_comm]
 ·rw [show [x].filter p=[] by simp [hx],List.append_nil,← ih]
  unfold insK
  rw [List.filter_append,List.filter_cons,if_neg hx]
  have:=zcP_ (k:=k) (List.Pairwise.filter p hs) (k x)
  conv=>rhs; rw [this]
  simp only [List.filter_filter,Bool.and_comm]
noncomputable def pcols (row:List Pas):List Int:=row.filterMap fun p=>match p.2 with | none=>some p.1 | some _=>none
noncomputable def pfit (row:List Pas) (x:Crd):Bool:=row.all fun p=>match p.2 with | none=>true | some s=>decide ([sg x p.1]=s)
theorem zbf_ (row:List Pas) (p:Pas) (x:Crd):pfit (row++[p]) x=(pfit row x && match p.2 with | none=>true | some s=>decide ([sg x p.1]=s)):=by
 unfold pfit; rw [List.all_append]; simp
theorem zfQ_ (d:List Crd) (row:List Pas):row.foldl doP d=sK (kv (pcols row).reverse) (d.filter (pfit row)):=by
 refine zaU_ (P:=fun row=>row.foldl doP d=sK (kv (pcols row).reverse) (d.filter (pfit row))) ?_ (fun row p ih=>?_) row
 ·show d=sK (kv []) (d.filter fun _=>true)
  rw [zki_,zi5_]; exact (List.filter_eq_self.mpr fun _ _=>rfl).symm
 ·rw [List.foldl_append,ih]
  obtain ⟨c,o⟩:=p
  cases o with
  | none =>
   have e1:pcols (row++[(c,none)])=pcols row++[c]:=by unfold pcols; rw [List.filterMap_append]; rfl
   have e2:pfit (row++[(c,none)])=pfit row:=by funext x; rw [zbf_]; simp
   rw [e1,e2,List.reverse_append]
   show sK (kv [c]) _=sK (kv (c::(pcols row).reverse)) _
   exact (zid_ [c] _).symm.trans (zfP_ _ c _)
  | some s =>
   have e1:pcols (row++[(c,some s)])=pcols row:=by unfold pcols; rw [List.filterMap_append]; simp
   have e2:d.filter (pfit (row++[(c,some s)]))=(d.filter (pfit row)).filter fun x=>decide ([sg x c]=s):=by
    rw [List.filter_filter]
    refine List.filter_congr fun x _=>?_
    rw [zbf_,Bool.and_comm]
   rw [e1,e2]
   exact ziu_ (fun x=>decide ([sg x c]=s)) _
theorem zbN_ {m:List (Int×List Nat)}{c:Int}{s:List Nat}(h:getA m c=some s):(c,s)∈m:=by
 unfold getA at h
 cases g:m.find? (fun q=>decide (q.1=c)) with
 | none=>rw [g] at h; cases h
 | some q =>
  rw [g] at h
  have h1:=List.mem_of_find?_eq_some g
  have h2:=List.find?_some g
  simp at h2
  have h3:q.2=s:=Option.some.inj h
  rw [← h2,← h3]; exact h1
theorem ze9_ {m:List (Int×List Nat)}{c:Int}(s:List Nat) (h:getA m c=none):putA m c s=m++[(c,s)]:=by
 unfold putA
 rw [if_neg]
 intro z
 rw [List.any_eq_true] at z
 obtain ⟨q,hq,hc⟩:=z
 unfold getA at h
 cases g:m.find? (fun q=>decide (q.1=c)) with
 | none=>exact absurd hc (by simpa using List.find?_eq_none.mp g q hq)
 | some q=>rw [g] at h; cases h
noncomputable def Cf (row:List Pas):Prop:=∃ c s s',s≠s'∧((c,some s):Pas)∈row∧((c,some s'):Pas)∈row
theorem Cf.fit {row:List Pas}(h:Cf row) (x:Crd):pfit row x=false:=by
 obtain ⟨c,s,s',hs,h1,h2⟩:=h
 cases hf:pfit row x with
 | false=>rfl
 | true =>
  unfold pfit at hf
  rw [List.all_eq_true] at hf
  have g1:=hf _ h1
  have g2:=hf _ h2
  simp at g1 g2
  exact absurd (g1.symm.trans g2) hs
structure PkOk (row:List Pas) (m:List (Int×List Nat)):Prop where
 fit:∀ x,(m.all fun q=>decide ([sg x q.1]=q.2))=pfit row x
 mem:∀ c s,getA m c=some s→(c,some s)∈row
 all:∀ c s,((c,some s):Pas)∈row→getA m c=some s
 len:m.length≤row.length
 col:∀ q∈m,1≤q.1∧q.1≤36
 val:∀ q∈m,∃ x,q.2=[x]∧x∈SG
 nd:(m.map (·.1)).Nodup
theorem zik_ {row:List Pas}(hr:∀ p∈row,psOk p) (hl:row.length≤1000):(zax_ row=.ok none∧Cf row)∨∃ m,zax_ row=.ok (some m)∧PkOk row m:=by
 unfold zax_ za0_
 walk_at "mo"
 refine zfJ_ (G:=fun z=>(fnO (thenO z _)=.ok none∧Cf row)∨∃ m,fnO (thenO z _)=.ok (some m)∧PkOk row m) (fun dn m=>PkOk dn m) ⟨fun x=>rfl,fun c s z=>(by cases z),fun c s z=>(by cases z),Nat.le_refl _,fun q z=>(by cases z),fun q z=>(by cases z),by simp⟩ ?_ ?_
 ·rintro dn p m ⟨r,hrr⟩ w
  have hp:psOk p:=hr p (by rw [hrr]; simp)
  have hdl:dn.length≤1000:=by have:=congrArg List.length hrr; rw [List.length_append] at this; lia
  have hml:=w.len
  obtain ⟨c,o⟩:=p
  cases o with
  | none =>
   have e:decide (pTag (c,none)=[112,105,99,107])=false:=by show decide (([100,101,97,108]:List Nat)=[112,105,99,107])=false; decide
   simp only [e]
   walk_at "mo"
   refine .inl ⟨_,rfl,⟨fun x=>by rw [w.fit,zbf_]; simp,fun c s z=>List.mem_append_left _ (w.mem c s z),fun c' s' z=>?_,by simp; lia,w.col,w.val,w.nd⟩⟩
   rcases List.mem_append.mp z with z | z
   ·exact w.all c' s' z
   ·simp at z
  | some s =>
   have e:decide (pTag (c,some s)=[112,105,99,107])=true:=rfl
   simp only [e]
   walk_at "mo"
   rw [Mo.lim_ok (by lia)]
   unfold sdA
   cases g:getA m c with
   | some s0 =>
    by_cases hs:s0=s
    ·subst hs
     simp only [decide_true,Bool.not_true]
     walk_at "mo"
     refine .inl ⟨_,rfl,⟨fun x=>?_,fun c s z=>List.mem_append_left _ (w.mem c s z),fun c' s' z=>?_,by simp; lia,w.col,w.val,w.nd⟩⟩
     ·rw [zbf_,w.fit]
      cases hf:pfit dn x with
      | false=>rfl
      | true =>
       rw [← w.fit,List.all_eq_true] at hf
       have:=hf _ (zbN_ g)
       simpa using this
     ·rcases List.mem_append.mp z with z | z
      ·exact w.all c' s' z
      ·have z:=List.mem_singleton.mp z
       cases z; exact g
    ·simp only [decide_eq_false hs,Bool.not_false]
     walk_at "mo"
     exact .inr ⟨_,rfl,.inl ⟨rfl,c,s0,s,hs,by rw [hrr]; exact List.mem_append_left _ (w.mem c s0 g),by rw [hrr]; simp⟩⟩
   | none =>
    simp only [decide_true,Bool.not_true]
    walk_at "mo"
    have hput:=ze9_ s g
    rw [hput]
    refine .inl ⟨_,rfl,⟨fun x=>?_,fun c' s' z=>?_,fun c' s' z=>?_,by simp; exact w.len,fun q hq=>?_,fun q hq=>?_,?_⟩⟩
    ·rw [List.all_append,w.fit,zbf_]; simp
    ·rw [← hput,za4_] at z
     split at z
     ·rename_i h; subst h; cases z; simp
     ·exact List.mem_append_left _ (w.mem c' s' z)
    ·rw [← hput,za4_]
     rcases List.mem_append.mp z with z | z
     ·have h1:=w.all c' s' z
      rw [if_neg (fun e=>by rw [← e,g] at h1; cases h1)]; exact h1
     ·have z:=List.mem_singleton.mp z
      cases z; rw [if_pos rfl]
    ·rcases List.mem_append.mp hq with h | h
     ·exact w.col q h
     ·rw [List.mem_singleton.mp h]; exact hp.1
    ·rcases List.mem_append.mp hq with h | h
     ·exact w.val q h
     ·rw [List.mem_singleton.mp h]; exact hp.2 s rfl
    ·rw [List.map_append,List.nodup_append]
     refine ⟨w.nd,by simp,fun a ha b hb z=>?_⟩
     have hb:b=c:=by simpa using hb
     obtain ⟨q,hq,hqa⟩:=List.mem_map.mp ha
     have:=w.mem
     unfold getA at g
     cases g2:m.find? (fun q=>decide (q.1=c)) with
     | some q=>rw [g2] at g; cases g
     | none=>exact absurd (hqa.trans (z.trans hb)) (by simpa using List.find?_eq_none.mp g2 q hq)
 ·intro m w
  exact .inr ⟨m,rfl,w⟩
noncomputable def skey (row:List Pas) (m:List (Int×List Nat)):List Int:=onceL ((pcols row).reverse.filter fun c=>!(getA m c).isSome)
theorem zbB_ (L:List Int) (c:Int):onceL (L++[c])=if c∈onceL L then onceL L else onceL L++[c]:=by unfold onceL; rw [List.foldl_append]; rfl
theorem zd2_ (L:List Int):(onceL L).length≤L.length:=by
 refine zaU_ (P:=fun L=>(onceL L).length≤L.length) (Nat.le_refl _) (fun L c ih=>?_) L
 rw [zbB_]; split<;>simp<;>lia
theorem zjw_ {L:List Int}{c:Int}:c∈onceL L→c∈L:=by
 refine zaU_ (P:=fun L=>c∈onceL L→c∈L) (fun h=>h) (fun L x ih h=>?_) L
 rw [zbB_] at h
 split at h
 ·exact List.mem_append_left _ (ih h)
 ·rcases List.mem_append.mp h with h | h
  ·exact List.mem_append_left _ (ih h)
  ·exact List.mem_append_right _ h
theorem zfw_ {row:List Pas}(hr:∀ p∈row,psOk p) (hl:row.length≤1000):(zbr_ row=.ok none∧Cf row)∨∃ m,zbr_ row=.ok (some (m,skey row m))∧PkOk row m:=by
 unfold zbr_ zco_
 walk_at "mo"
 rcases zik_ hr hl with ⟨e,h⟩ | ⟨m,e,w⟩
 ·rw [e]
  walk_at "mo"
  first | exact .inl ⟨rfl,h⟩ | exact .inl ⟨trivial,h⟩
 ·rw [e]
  walk_at "mo"
  refine .inr ⟨m,?_,w⟩
  refine zbT_ (G:=fun z=>fnO (thenO z _)=.ok (some (m,skey row m))) (fun dn s=>s=onceL ((pcols dn).filter fun c=>!(getA m c).isSome)) rfl ?_ ?_
  ·rintro dn p s ⟨r,hrr⟩ rfl
   have hdl:dn.length≤1000:=by have:=congrArg List.length hrr; rw [List.length_append,List.length_reverse] at this; lia
   obtain ⟨c,o⟩:=p
   cases o with
   | some s =>
    have e:decide (pTag (c,some s)=[100,101,97,108])=false:=by show decide (([112,105,99,107]:List Nat)=[100,101,97,108])=false; decide
    have e1:pcols (dn++[(c,some s)])=pcols dn:=by unfold pcols; rw [List.filterMap_append]; simp
    simp only [e]
    walk_at "mo"
    exact ⟨_,rfl,by rw [e1]⟩
   | none =>
    have e:decide (pTag (c,none)=[100,101,97,108])=true:=rfl
    have e1:pcols (dn++[(c,none)])=pcols dn++[c]:=by unfold pcols; rw [List.filterMap_append]; rfl
    have hpl:(pcols dn).length≤dn.length:=List.length_filterMap_le _ _
    have hol:=Nat.le_trans (zd2_ ((pcols dn).filter fun c=>!(getA m c).isSome)) (List.length_filter_le _ _)
    simp only [e]
    walk_at "mo"
    rw [e1,List.filter_append]
    cases g:getA m c with
    | some s =>
     walk_at "mo"
     exact ⟨_,rfl,by simp [g]⟩
    | none =>
     have e2:[c].filter (fun c=>!(getA m c).isSome)=[c]:=by simp [g]
     rw [e2,zbB_]
     walk_at "mo"
     by_cases hc:c∈onceL ((pcols dn).filter fun c=>!(getA m c).isSome)
     ·rw [show (onceL ((pcols dn).filter fun c=>!(getA m c).isSome)).any (fun y=>decide (y=c))=true by rw [List.any_eq_true]; exact ⟨c,hc,by simp⟩,if_pos hc]
      walk_at "mo"
      exact ⟨_,rfl,rfl⟩
     ·rw [show (onceL ((pcols dn).filter fun c=>!(getA m c).isSome)).any (fun y=>decide (y=c))=false by rw [List.any_eq_false]; intro y hy z; simp at z; exact hc (z ▸ hy),if_neg hc]
      walk_at "mo"
      rw [Mo.lim_ok (by lia)]
      walk_at "mo"
      exact ⟨_,rfl,rfl⟩
  ·rintro s rfl
   walk_at "mo"
   unfold skey
   rw [show pcols row.reverse=(pcols row).reverse by unfold pcols; rw [List.filterMap_reverse]]
theorem ahd_or (L:List Int) (a b:Crd):(∀ c∈L,rnk a c=rnk b c)∨ahd L a b=true∨ahd L b a=true:=by
 induction L with
 | nil=>exact .inl fun c h=>by cases h
 | cons c L ih =>
  unfold ahd
  by_cases h:rnk a c=rnk b c
  ·rw [if_pos h,if_pos h.symm]
   rcases ih with ih | ih
   ·exact .inl fun x hx=>by
     rcases List.mem_cons.mp hx with rfl | hx
     ·exact h
     ·exact ih x hx
   ·exact .inr ih
  ·rw [if_neg h,if_neg (fun z=>h z.symm)]
   right
   rcases Nat.lt_or_gt_of_ne h with z | z
   ·exact .inl (decide_eq_true z)
   ·exact .inr (decide_eq_true z)
theorem zho_ (q:Int→Bool) (L:List Int) (a b:Crd) (h:∀ c,q c=false→rnk a c=rnk b c):ahd (L.filter q) a b=ahd L a b:=by
 induction L with
 | nil=>rfl
 | cons c L ih =>
  rw [List.filter_cons]
  cases g:q c with
  | true=>rw [if_pos rfl]; unfold ahd; rw [ih]
  | false=>rw [if_neg (by decide),ih]; conv=>rhs; unfold ahd; rw [if_pos (h c g)]
theorem zex_:∀ (l l':List Int),l.Nodup→(∀ x∈l,x∈l')→l'.length≤l.length→∀ x∈l',x∈l
 | [],l',_,_,hl,x,hx=>by
  cases l' with
  | nil=>cases hx
  | cons a t=>simp at hl
 | a::t,l',hn,hs,hl,x,hx=>by
  obtain ⟨h1,h2⟩:=List.nodup_cons.mp hn
  by_cases e:x=a
  ·rw [e]; exact List.mem_cons_self
  ·refine List.mem_cons_of_mem _ (zex_ t (l'.erase a) h2 (fun y hy=>?_) ?_ x ((List.mem_erase_of_ne e).mpr hx))
   ·exact (List.mem_erase_of_ne (show y≠a from fun z=>h1 (by rw [← z]; exact hy))).mpr (hs y (List.mem_cons_of_mem _ hy))
   ·rw [List.length_erase_of_mem (hs a List.mem_cons_self)]; simp at hl; lia
theorem zcO_:∀ (l l':List Int),l.Nodup→(∀ x∈l,x∈l')→l.length≤l'.length
 | [],_,_,_=>Nat.zero_le _
 | a::t,l',hn,hs=>by
  obtain ⟨h1,h2⟩:=List.nodup_cons.mp hn
  have h3:=zcO_ t (l'.erase a) h2 fun y hy=>(List.mem_erase_of_ne (show y≠a from fun z=>h1 (by rw [← z]; exact hy))).mpr (hs y (List.mem_cons_of_mem _ hy))
  rw [List.length_erase_of_mem (hs a List.mem_cons_self)] at h3
  have h4:0<l'.length:=List.length_pos_of_mem (hs a List.mem_cons_self)
  simp; lia
theorem zhs_ {m:List (Int×List Nat)}(hn:(m.map (·.1)).Nodup) {q:Int×List Nat}(hq:q∈m):getA m q.1=some q.2:=by
 unfold getA
 induction m with
 | nil=>cases hq
 | cons x ks ih =>
  rw [List.find?_cons]
  rcases List.mem_cons.mp hq with rfl | hq
  ·simp
  ·have hne:x.1≠q.1:=fun z=>(List.nodup_cons.mp hn).1 (by show x.1∈_; rw [z]; exact List.mem_map.mpr ⟨q,hq,rfl⟩)
   rw [decide_eq_false hne]
   exact ih (List.nodup_cons.mp hn).2 hq
noncomputable def SP (row other:List Pas):Prop:=∀ c s,((c,some s):Pas)∈row↔((c,some s):Pas)∈other
theorem PkOk.key {row:List Pas}{m:List (Int×List Nat)}(w:PkOk row m) {c:Int}{s:List Nat}(h:((c,some s):Pas)∈row):c∈m.map (·.1):=List.mem_map.mpr ⟨_,zbN_ (w.all c s h),rfl⟩
theorem PkOk.of {row:List Pas}{m:List (Int×List Nat)}(w:PkOk row m) {q:Int×List Nat}(h:q∈m):((q.1,some q.2):Pas)∈row:=w.mem _ _ (zhs_ w.nd h)
theorem PkOk.nc {row:List Pas}{m:List (Int×List Nat)}(w:PkOk row m):¬ Cf row:=by
 rintro ⟨c,s,s',hs,h1,h2⟩
 have:=(w.all c s h1).symm.trans (w.all c s' h2)
 exact hs (Option.some.inj this)
theorem zfu_ {row other:List Pas}{m m':List (Int×List Nat)}(w:PkOk row m) (w':PkOk other m'):eqDm m m'=true↔SP row other:=by
 unfold eqDm
 rw [Bool.and_eq_true,List.all_eq_true,beq_iff_eq]
 constructor
 ·rintro ⟨hl,ha⟩ c s
  have fw:∀ q∈m,getA m' q.1=some q.2:=fun q hq=>by simpa using ha q hq
  constructor
  ·intro h
   exact w'.mem c s (fw _ (zbN_ (w.all c s h)))
  ·intro h
   have hk:=zex_ (m.map (·.1)) (m'.map (·.1)) w.nd (fun x hx=>by
    obtain ⟨q,hq,rfl⟩:=List.mem_map.mp hx
    exact List.mem_map.mpr ⟨_,zbN_ (fw q hq),rfl⟩) (by simp; lia) c (w'.key h)
   obtain ⟨q,hq,rfl⟩:=List.mem_map.mp hk
   have h1:=(fw q hq).symm.trans (w'.all q.1 s h)
   rw [← Option.some.inj h1]
   exact w.of hq
 ·intro h
  refine ⟨Nat.le_antisymm ?_ ?_,fun q hq=>decide_eq_true (w'.all _ _ ((h _ _).mp (w.of hq)))⟩
  ·have:=zcO_ (m.map (·.1)) (m'.map (·.1)) w.nd fun x hx=>by
    obtain ⟨q,hq,rfl⟩:=List.mem_map.mp hx
    exact w'.key ((h _ _).mp (w.of hq))
   simpa using this
  ·have:=zcO_ (m'.map (·.1)) (m.map (·.1)) w'.nd fun x hx=>by
    obtain ⟨q,hq,rfl⟩:=List.mem_map.mp hx
    exact w.key ((h _ _).mpr (w'.of hq))
   simpa using this
theorem zcx_ {row:List Pas}{x:Crd}:pfit row x=true↔∀ c s,((c,some s):Pas)∈row→[sg x c]=s:=by
 unfold pfit
 rw [List.all_eq_true]
 constructor
 ·intro h c s hc
  simpa using h _ hc
 ·rintro h ⟨c,o⟩ hp
  cases o with
  | none=>rfl
  | some s=>simpa using h c s hp
theorem SP.fit {row other:List Pas}(h:SP row other) (x:Crd):pfit row x=pfit other x:=by
 rw [Bool.eq_iff_iff,zcx_,zcx_]
 exact ⟨fun g c s hc=>g c s ((h c s).mpr hc),fun g c s hc=>g c s ((h c s).mp hc)⟩
theorem PkOk.no {row:List Pas}{m:List (Int×List Nat)}(w:PkOk row m) {a b:Crd}(ha:pfit row a=true) (hb:pfit row b=true) (c:Int) (hc:(!(getA m c).isSome)=false):rnk a c=rnk b c:=by
 cases g:getA m c with
 | none=>rw [g] at hc; cases hc
 | some s =>
  have h1:=zcx_.mp ha c s (w.mem c s g)
  have h2:=zcx_.mp hb c s (w.mem c s g)
  have h3:([sg a c]:List Nat)=[sg b c]:=h1.trans h2.symm
  injection h3 with h3
  unfold rnk; rw [h3]
theorem nf {row:List Pas}{m:List (Int×List Nat)}(w:PkOk row m) (d:List Crd):row.foldl doP d=sK (kv (skey row m)) (d.filter (pfit row)):=by
 rw [zfQ_]
 have key:∀ a b,pfit row a=true→pfit row b=true→(kv (pcols row).reverse a<kv (pcols row).reverse b↔kv (skey row m) a<kv (skey row m) b):=fun a b ha hb=>by
  have h:=zho_ (fun c=>!(getA m c).isSome) (pcols row).reverse a b (w.no ha hb)
  have h2:ahd (skey row m) a b=ahd (pcols row).reverse a b:=by unfold skey; rw [zju_,h]
  rw [zh7_,zh7_] at h2
  rw [decide_eq_decide] at h2
  exact h2.symm
 refine zg2_ _ fun a ha b hb=>?_
 have h:=key b a (List.mem_filter.mp hb).2 (List.mem_filter.mp ha).2
 lia
noncomputable def sgn (s:List (Int×List Nat)) (c:Int):Nat:=((getA s c).getD [32]).headD 0
noncomputable def cw (s:List (Int×List Nat)) (mk:List Nat):Crd:=(List.range 36).map (fun i:Nat=>sgn s ((i:Int)+1))++mk
noncomputable def Vok (s:List (Int×List Nat)):Prop:=∀ c v,getA s c=some v→∃ x,v=[x]∧x∈SG
theorem Vok.at {s:List (Int×List Nat)}(h:Vok s) (c:Int):(getA s c).getD [32]=[sgn s c]∧sgn s c∈SG:=by
 unfold sgn
 cases g:getA s c with
 | none=>exact ⟨rfl,by decide⟩
 | some v=>obtain ⟨x,rfl,hx⟩:=h c v g; exact ⟨rfl,hx⟩
theorem PkOk.vok {row:List Pas}{m:List (Int×List Nat)}(w:PkOk row m):Vok m:=fun c v h=>w.val _ (zbN_ h)
theorem cw_eq {s:List (Int×List Nat)}(h:Vok s) {mk:List Nat}(hm:mk.length=4):zav_ s mk=.ok (cw s mk):=by
 unfold zav_ zbU_
 walk_at "mo"
 rw [Mo.grd_ok (by decide)]
 walk_at "mo"
 rw [zf3_ (f:=fun x_7=>cond1 (Mo.ok true) (Mo.ok ((getA s x_7).getD [32]))) (g:=fun c=>(getA s c).getD [32]) (fun x _=>rfl) (by rw [zee_]; decide)]
 have e:([]:List (List Nat))++(rngI 1 (37-1:Int).toNat).map (fun c=>(getA s c).getD [32])=((List.range 36).map fun i:Nat=>sgn s ((i:Int)+1)).map fun c=>[c]:=by
  rw [List.nil_append,List.map_map]
  unfold rngI
  rw [List.map_map]
  refine List.map_congr_left fun i _=>?_
  show (getA s (1+(i:Int))).getD [32]=[sgn s ((i:Int)+1)]
  rw [Int.add_comm]; exact (h.at _).1
 rw [show (37:Int)-1=(37-1:Int) from rfl] at *
 walk_at "mo"
 rw [show ([]:List (List Nat))++(rngI 1 (36:Int).toNat).map (fun c=>(getA s c).getD [32])=((List.range 36).map fun i:Nat=>sgn s ((i:Int)+1)).map fun c=>[c] from e]
 generalize hw:(List.range 36).map (fun i:Nat=>sgn s ((i:Int)+1))=ws
 have hwl:ws.length=36:=by rw [← hw]; simp
 have esl:strsL (ws.map fun c=>[c])=ws.map fun c=>(⟨#[c]⟩:Str):=by unfold strsL; rw [List.map_map]; rfl
 rw [esl]
 have hj:JoinOk { cps:=#[] } (ws.map fun c=>(⟨#[c]⟩:Str))=true:=zeU_ (by rw [List.length_map,hwl]; decide) (fun q hq=>by
  obtain ⟨c,_,rfl⟩:=List.mem_map.mp hq
  simp [Str.length])
 rw [Mo.grd_ok hj,L2.zh0_]
 walk_at "mo"
 rw [Mo.lim_ok (by lia)]
 walk_at "mo"
 unfold cw
 rw [hw]
theorem cw_isC {s:List (Int×List Nat)}(h:Vok s) {mk:List Nat}(hm:mk.length=4) (hs:∀ x∈mk,x∈SG):isC (cw s mk):=by
 refine ⟨by unfold cw; simp; lia,fun x hx=>?_⟩
 rcases List.mem_append.mp hx with hx | hx
 ·obtain ⟨i,_,rfl⟩:=List.mem_map.mp hx
  exact (h.at _).2
 ·exact hs x hx
theorem cw_sg (s:List (Int×List Nat)) (mk:List Nat) {c:Int}(h1:1≤c) (h2:c≤36):sg (cw s mk) c=sgn s c:=by
 unfold sg cw
 rw [List.getD_eq_getElem?_getD,List.getElem?_append_left (by simp; lia),List.getElem?_map,List.getElem?_range (by lia)]
 show sgn s (((c-1).toNat:Int)+1)=_
 congr 1
 lia
theorem fold1 (row:List Pas) (x:Crd):row.foldl doP [x]=if pfit row x=true then [x] else []:=by
 rw [zfQ_]
 cases h:pfit row x with
 | true=>simp [h,sK,insK]
 | false=>simp [h,sK]
theorem part1 {row other:List Pas}{x:Crd}(h1:pfit row x=false) (h2:pfit other x=true):row.foldl doP [x]≠other.foldl doP [x]∧other.foldl doP [x]≠row.foldl doP [x]:=by
 rw [fold1,fold1,h1,h2]
 exact ⟨by simp,by simp⟩
noncomputable def mk1:List Nat:=[48,48,48,49]
noncomputable def mk2:List Nat:=[48,48,48,50]
theorem cw_fit {row:List Pas}{m s:List (Int×List Nat)}(w:PkOk row m) (mk:List Nat) (h:∀ c v,getA m c=some v→getA s c=some v):pfit row (cw s mk)=true:=by
 rw [zcx_]
 intro c v hc
 have g:=w.all c v hc
 obtain ⟨x,rfl,_⟩:=w.vok c v g
 obtain ⟨c1,c2⟩:=w.col _ (zbN_ g)
 rw [cw_sg s mk c1 c2]
 unfold sgn
 rw [h c _ g]; rfl
theorem PkOk.l36 {row:List Pas}{m:List (Int×List Nat)}(w:PkOk row m):m.length≤36:=by
 have:=zcO_ (m.map (·.1)) (rngI 1 36) w.nd fun x hx=>by
  obtain ⟨q,hq,rfl⟩:=List.mem_map.mp hx
  have:=w.col q hq
  exact ze2_.mpr ⟨this.1,by have:=this.2; lia⟩
 rw [List.length_map,zee_] at this; exact this
theorem ziF_ {row other:List Pas}{m m':List (Int×List Nat)}(w:PkOk row m) (w':PkOk other m') :
  (zT_ m m'=.ok none∧∀ c s,((c,some s):Pas)∈row→((c,some s):Pas)∈other)∨∃ x,zT_ m m'=.ok (some x)∧isC x∧pfit row x=false∧pfit other x=true:=by
 have hm:=w.l36
 have hm':=w'.l36
 have hsd:∀ c v,getA m c=some v→Vok (sdA m' c (if decide (v=[48])=true then [49] else [48])).2∧(sdA m' c (if decide (v=[48])=true then [49] else [48])).2.length≤64∧(∀ c' v',getA m' c'=some v'→getA (sdA m' c (if decide (v=[48])=true then [49] else [48])).2 c'=some v')∧(getA m' c≠some v→[sgn (sdA m' c (if decide (v=[48])=true then [49] else [48])).2 c]≠v):=by
  intro c v hv
  have hd:∃ y,(if decide (v=[48])=true then ([49]:List Nat) else [48])=[y]∧y∈SG∧[y]≠v:=by
   by_cases e:v=[48]
   ·rw [decide_eq_true e]; exact ⟨49,rfl,by decide,by rw [e]; decide⟩
   ·rw [decide_eq_false e]; exact ⟨48,rfl,by decide,fun z=>e z.symm⟩
  obtain ⟨y,ey,hy,hyv⟩:=hd
  rw [ey]
  unfold sdA
  cases g:getA m' c with
  | some u =>
   refine ⟨w'.vok,by simp; lia,fun c' v' h=>h,fun hne z=>hne ?_⟩
   obtain ⟨x,rfl,_⟩:=w'.vok c u g
   have:sgn m' c=x:=by unfold sgn; rw [g]; rfl
   simp only at z
   rw [this] at z; rw [z]
  | none =>
   refine ⟨fun c' v' h=>?_,?_,fun c' v' h=>?_,fun _=>?_⟩
   ·simp only at h
    rw [za4_] at h
    split at h
    ·cases h; exact ⟨y,rfl,hy⟩
    ·exact w'.vok c' v' h
   ·exact Nat.le_trans (ze0_ _ _ _) (by lia)
   ·simp only
    rw [za4_,if_neg (fun e=>by rw [← e,g] at h; cases h)]; exact h
   ·have:sgn (putA m' c [y]) c=y:=by unfold sgn; rw [za4_,if_pos rfl]; rfl
    simp only
    rw [this]; exact hyv
 have hkey:∀ c∈srtL ltI (m.map (·.1)),∃ v,getA m c=some v∧(c,v)∈m:=fun c hc=>by
  obtain ⟨q,hq,rfl⟩:=List.mem_map.mp ((zdZ_ ltI (m.map (·.1))).mem_iff.mp hc)
  exact ⟨q.2,zhs_ w.nd hq,hq⟩
 unfold zT_ zaZ_
 walk_at "mo"
 rw [Mo.grd_ok (by lia)]
 walk_at "mo"
 rw [zfW_ (p:=fun c=>!decide (getA m' c=getA m c)) (a:=fun c=>some (cw (sdA m' c (if decide (getA m c=some [48])=true then [49] else [48])).2 mk1)) (fun c hc=>?_)]
 ·cases g:(srtL ltI (m.map (·.1))).find? (fun c=>!decide (getA m' c=getA m c)) with
  | none =>
   refine .inl ⟨rfl,fun c s hc=>?_⟩
   have h1:=List.find?_eq_none.mp g c ((zdZ_ ltI (m.map (·.1))).mem_iff.mpr (w.key hc))
   have h2:getA m' c=getA m c:=by simpa using h1
   exact w'.mem c s (h2.trans (w.all c s hc))
  | some c =>
   obtain ⟨v,hv,hmem⟩:=hkey c (List.mem_of_find?_eq_some g)
   obtain ⟨a1,a2,a3,a4⟩:=hsd c v hv
   have hne:getA m' c≠some v:=by
    have:=List.find?_some g
    rw [hv] at this
    simpa using this
   have e48:decide (getA m c=some [48])=decide (v=[48]):=by rw [hv,decide_eq_decide]; exact ⟨fun h=>Option.some.inj h,fun h=>by rw [h]⟩
   refine .inr ⟨_,rfl,?_,?_,?_⟩
   ·rw [e48]; exact cw_isC a1 rfl (by decide)
   ·rw [e48]
    cases hf:pfit row (cw (sdA m' c (if decide (v=[48])=true then [49] else [48])).2 mk1) with
    | false=>rfl
    | true =>
     have h1:=zcx_.mp hf c v (w.mem c v hv)
     obtain ⟨c1,c2⟩:=w.col _ hmem
     rw [cw_sg _ _ c1 c2] at h1
     exact absurd h1 (a4 hne)
   ·rw [e48]; exact cw_fit w' mk1 a3
 ·obtain ⟨v,hv,_⟩:=hkey c hc
  obtain ⟨a1,a2,a3,a4⟩:=hsd c v hv
  rw [hv]
  walk_at "mo"
  have e48:decide (some v=some ([48]:List Nat))=decide (v=[48]):=by rw [decide_eq_decide]; exact ⟨fun h=>Option.some.inj h,fun h=>by rw [h]⟩
  by_cases e:getA m' c=some v
  ·rw [decide_eq_true e]; rfl
  ·rw [decide_eq_false e,e48]
   walk_at "mo"
   have ite:(if decide (v=[48])=true then (Mo.ok ([49]:List Nat)) else Mo.ok [48])=Mo.ok (if decide (v=[48])=true then [49] else [48]):=by split<;>rfl
   rw [ite]
   walk_at "mo"
   rw [Mo.lim_ok (by lia),cw_eq (mk:=[48,48,48,49]) a1 rfl]
   rfl
theorem zkz_ {ρ B:Type}{c:Int→Mo Bool}{step:Int→Mo (Out ρ Int Int)}(p:Nat→Bool) (hs:∀ i:Nat,step (i:Int)=.ok (.nx ((i:Int)+1))) (hc:∀ i:Nat,c (i:Int)=.ok (p i)) :
  ∀ (n fuel i:Nat),n<fuel→p (i+n)=false→∃ k:Nat,whileO (B:=B) c step fuel (i:Int)=.ok (.nx (k:Int))∧i≤k∧p k=false∧∀ j,i≤j→j<k→p j=true
 | n,0,i,h,_=>by lia
 | n,fuel+1,i,h,hp=>by
  cases e:p i with
  | false =>
   refine ⟨i,?_,Nat.le_refl _,e,fun j a b=>by lia⟩
   show (c i).bind _=_
   rw [hc,e]; rfl
  | true =>
   cases n with
   | zero=>rw [Nat.add_zero,e] at hp; cases hp
   | succ n =>
    obtain ⟨k,h1,h2,h3,h4⟩:=zkz_ p hs hc n fuel (i+1) (by lia) (by rw [← hp]; congr 1; lia)
    refine ⟨k,?_,by lia,h3,fun j a b=>?_⟩
    ·rw [← h1]
     show (c i).bind _=_
     rw [hc,e]
     show (step i).bind _=_
     rw [hs]; rfl
    ·by_cases z:j=i
     ·rw [z]; exact e
     ·exact h4 j (by lia) b
theorem zii_ (one other:List Int) (h:one.length≤1000):∃ k:Nat,zaP_ one other=.ok (k:Int)∧k≤one.length∧k≤other.length∧(∀ j,j<k→one[j]?=other[j]?)∧(k<one.length→k<other.length→one[k]?≠other[k]?):=by
 let p:Nat→Bool:=fun i=>decide (i<min one.length other.length) && decide (one[i]?=other[i]?)
 unfold zaP_ zaM_
 walk_at "mo"
 obtain ⟨k,h1,_,h3,h4⟩:=zkz_ (ρ:=Int) (B:=Unit) (c:=fun s_2=>if decide (s_2<min (one.length:Int) (other.length:Int))=true then (Mo.opt (atI one s_2)).bind fun a_14=>(Mo.opt (atI other s_2)).bind fun b_15=>Mo.ok (decide (a_14=b_15)) else Mo.ok false) (step:=fun s_2=>Mo.ok (Out.nx (s_2+1))) p (fun i=>rfl) (fun i=>by
  by_cases hi:i<min one.length other.length
  ·have h1:i<one.length:=by lia
   have h2:i<other.length:=by lia
   rw [decide_eq_true (by lia),if_pos rfl,zgg_ (by lia),zgg_ (by lia),Int.toNat_natCast,List.getElem?_eq_getElem h1,List.getElem?_eq_getElem h2]
   show Mo.ok (decide (one[i]=other[i]))=Mo.ok (decide (i<min one.length other.length) && decide (one[i]?=other[i]?))
   rw [decide_eq_true hi,Bool.true_and,List.getElem?_eq_getElem h1,List.getElem?_eq_getElem h2]
   congr 1
   rw [decide_eq_decide]
   exact ⟨fun z=>by rw [z],fun z=>Option.some.inj z⟩
  ·rw [decide_eq_false (by lia),if_neg (by decide)]
   show Mo.ok false=Mo.ok (decide (i<min one.length other.length) && _)
   rw [decide_eq_false hi]; rfl) 1000 fuelW 0 (by rw [zgJ_]; lia) (by show (decide (_<_) && _)=false; rw [decide_eq_false (by lia)]; rfl)
 have h1':whileO (ρ:=Int) (B:=Unit) (fun s_2=>if decide (s_2<min (one.length:Int) (other.length:Int))=true then (Mo.opt (atI one s_2)).bind fun a_14=>(Mo.opt (atI other s_2)).bind fun b_15=>Mo.ok (decide (a_14=b_15)) else Mo.ok false) (fun s_2=>Mo.ok (Out.nx (s_2+1))) fuelW 0=.ok (.nx (k:Int)):=h1
 rw [h1']
 have hp:∀ j,j<k→j<min one.length other.length∧one[j]?=other[j]?:=fun j hj=>by
  have:=h4 j (Nat.zero_le _) hj
  rw [Bool.and_eq_true] at this
  exact ⟨of_decide_eq_true this.1,of_decide_eq_true this.2⟩
 have hkl:k≤min one.length other.length:=by
  cases k with
  | zero=>lia
  | succ k=>have:=(hp k (by lia)).1; lia
 refine ⟨k,rfl,by lia,by lia,fun j hj=>(hp j hj).2,fun a b z=>?_⟩
 have:p k=true:=by show (decide _ && decide _)=true; rw [decide_eq_true (by lia),decide_eq_true z]; rfl
 rw [h3] at this; cases this
theorem zhf_ {l:List Int}{k:Nat}{c:Int}:c∈l.take k↔∃ j,j<k∧l[j]?=some c:=by
 constructor
 ·intro h
  obtain ⟨i,hi,e⟩:=List.mem_iff_getElem.mp h
  rw [List.length_take] at hi
  rw [List.getElem_take] at e
  exact ⟨i,by lia,by rw [List.getElem?_eq_getElem (by lia),e]⟩
 ·rintro ⟨j,hj,e⟩
  refine List.mem_of_getElem? (i:=j) ?_
  rw [List.getElem?_take,if_pos hj]; exact e
noncomputable def frC (m:List (Int×List Nat)) (pre:List Int) (c:Int):Prop:=(1≤c∧c≤36)∧getA m c=none∧c∉pre
open Classical in
theorem zha_ {row:List Pas}{m:List (Int×List Nat)}(w:PkOk row m) {one other:List Int}(h1:one.length≤1000) (h2:other.length≤1000) :
  ∃ (k:Nat) (lo hi:List (Int×List Nat)),zak_ m one other=.ok [cw hi mk1,cw lo mk2]∧k≤one.length∧k≤other.length∧(∀ j,j<k→one[j]?=other[j]?)∧(k<one.length→k<other.length→one[k]?≠other[k]?)∧Vok lo∧Vok hi ∧
   (∀ c,getA lo c=if other[k]?=some c then some [49] else if frC m (one.take k) c then some [48] else getA m c)∧(∀ c,getA hi c=if other[k]?=some c then some [48] else if frC m (one.take k) c then some [49] else getA m c):=by
 have hml:=w.l36
 obtain ⟨k,ek,k1,k2,k3,k4⟩:=zii_ one other h1
 unfold zak_ zaX_
 walk_at "mo"
 rw [ek]
 walk_at "mo"
 rw [Mo.grd_ok (by decide)]
 walk_at "mo"
 rw [zgx_ (by lia),Int.toNat_natCast]
 refine zbT_ (G:=fun z=>∃ (k:Nat) (lo hi:List (Int×List Nat)),fnO (thenO z _)=.ok [cw hi mk1,cw lo mk2]∧k≤one.length∧k≤other.length∧(∀ j,j<k→one[j]?=other[j]?)∧(k<one.length→k<other.length→one[k]?≠other[k]?)∧Vok lo∧Vok hi∧(∀ c,getA lo c=if other[k]?=some c then some [49] else if frC m (one.take k) c then some [48] else getA m c)∧(∀ c,getA hi c=if other[k]?=some c then some [48] else if frC m (one.take k) c then some [49] else getA m c))
  (fun dn (s:List (Int×List Nat)×List (Int×List Nat))=>s.1.length≤63+dn.length∧s.2.length≤63+dn.length∧(∀ c,getA s.1 c=if c∈dn∧frC m (one.take k) c then some [48] else getA m c)∧∀ c,getA s.2 c=if c∈dn∧frC m (one.take k) c then some [49] else getA m c) ?_ ?_ ?_
 ·exact ⟨by simp; lia,by simp; lia,fun c=>by rw [if_neg (by simp)],fun c=>by rw [if_neg (by simp)]⟩
 ·rintro dn c ⟨lo,hi⟩ ⟨r,hr⟩ ⟨g1,g2,g3,g4⟩
  simp only at g1 g2 g3 g4 ⊢
  have hdn:dn.length≤36:=by
   have:=congrArg List.length hr
   rw [zee_,List.length_append] at this; simp at this; lia
  have hc:c∈rngI 1 36:=by
   have:c∈rngI 1 (Int.toNat 36):=by rw [show rngI 1 (Int.toNat 36)=_ from hr]; simp
   exact this
  have hc:=ze2_.mp hc
  have hcr:1≤c∧c≤36:=⟨hc.1,by have:=hc.2; lia⟩
  have same:¬ frC m (one.take k) c→(∀ x,(if x∈dn++[c]∧frC m (one.take k) x then some ([48]:List Nat) else getA m x)=if x∈dn∧frC m (one.take k) x then some [48] else getA m x)∧∀ x,(if x∈dn++[c]∧frC m (one.take k) x then some ([49]:List Nat) else getA m x)=if x∈dn∧frC m (one.take k) x then some [49] else getA m x:=fun hn=>by
   have:∀ x,(x∈dn++[c]∧frC m (one.take k) x)↔(x∈dn∧frC m (one.take k) x):=fun x=>by
    constructor
    ·rintro ⟨a,b⟩
     rcases List.mem_append.mp a with a | a
     ·exact ⟨a,b⟩
     ·rw [List.mem_singleton.mp a] at b; exact absurd b hn
    ·rintro ⟨a,b⟩; exact ⟨List.mem_append_left _ a,b⟩
   exact ⟨fun x=>by simp only [this x],fun x=>by simp only [this x]⟩
  cases g:getA m c with
  | some v =>
   walk_at "mo"
   have hn:¬ frC m (one.take k) c:=fun z=>by have:=z.2.1; rw [g] at this; cases this
   exact ⟨_,rfl,by simp; lia,by simp; lia,fun x=>by rw [g3 x,(same hn).1 x],fun x=>by rw [g4 x,(same hn).2 x]⟩
  | none =>
   walk_at "mo"
   by_cases hp:c∈one.take k
   ·rw [show (one.take k).any (fun y=>decide (y=c))=true by rw [List.any_eq_true]; exact ⟨c,hp,by simp⟩]
    walk_at "mo"
    have hn:¬ frC m (one.take k) c:=fun z=>z.2.2 hp
    exact ⟨_,rfl,by simp; lia,by simp; lia,fun x=>by rw [g3 x,(same hn).1 x],fun x=>by rw [g4 x,(same hn).2 x]⟩
   ·rw [show (one.take k).any (fun y=>decide (y=c))=false by rw [List.any_eq_false]; intro y hy z; simp at z; exact hp (z ▸ hy)]
    walk_at "mo"
    rw [Mo.lim_ok (by lia),Mo.lim_ok (by lia)]
    walk_at "mo"
    have hf:frC m (one.take k) c:=⟨hcr,g,hp⟩
    have one1:∀ x (v:List Nat),(if x∈dn++[c]∧frC m (one.take k) x then some v else getA m x)=if c=x then some v else if x∈dn∧frC m (one.take k) x then some v else getA m x:=fun x v=>by
     by_cases e:c=x
     ·subst e; rw [if_pos rfl,if_pos ⟨by simp,hf⟩]
     ·rw [if_neg e]
      have:(x∈dn++[c]∧frC m (one.take k) x)↔(x∈dn∧frC m (one.take k) x):=by
       constructor
       ·rintro ⟨a,b⟩
        rcases List.mem_append.mp a with a | a
        ·exact ⟨a,b⟩
        ·exact absurd (List.mem_singleton.mp a).symm e
       ·rintro ⟨a,b⟩; exact ⟨List.mem_append_left _ a,b⟩
      simp only [this]
    refine ⟨_,rfl,Nat.le_trans (ze0_ _ _ _) (by simp; lia),Nat.le_trans (ze0_ _ _ _) (by simp; lia),fun x=>?_,fun x=>?_⟩
    ·rw [za4_,g3 x,one1]
    ·rw [za4_,g4 x,one1]
 ·rintro ⟨lo,hi⟩ ⟨g1,g2,g3,g4⟩
  simp only at g1 g2 g3 g4 ⊢
  have hrl:(rngI 1 36).length=36:=zee_ ..
  have hlo:lo.length≤99:=by have:lo.length≤63+(rngI 1 36).length:=g1; lia
  have hhi:hi.length≤99:=by have:hi.length≤63+(rngI 1 36).length:=g2; lia
  have hin:∀ c,(c∈rngI 1 36∧frC m (one.take k) c)↔frC m (one.take k) c:=fun c=>⟨fun z=>z.2,fun z=>⟨ze2_.mpr ⟨z.1.1,by have:=z.1.2; lia⟩,z⟩⟩
  have g3':∀ c,getA lo c=if frC m (one.take k) c then some [48] else getA m c:=fun c=>by
   rw [g3 c]
   by_cases z:frC m (one.take k) c
   ·rw [if_pos z,if_pos ⟨((hin c).mpr z).1,z⟩]
   ·rw [if_neg z,if_neg (fun y=>z y.2)]
  have g4':∀ c,getA hi c=if frC m (one.take k) c then some [49] else getA m c:=fun c=>by
   rw [g4 c]
   by_cases z:frC m (one.take k) c
   ·rw [if_pos z,if_pos ⟨((hin c).mpr z).1,z⟩]
   ·rw [if_neg z,if_neg (fun y=>z y.2)]
  have fin:∀ lo' hi',(∀ c,getA lo' c=if other[k]?=some c then some [49] else if frC m (one.take k) c then some [48] else getA m c)→(∀ c,getA hi' c=if other[k]?=some c then some [48] else if frC m (one.take k) c then some [49] else getA m c)→Vok lo'∧Vok hi':=fun lo' hi' a b=>by
   refine ⟨fun c v h=>?_,fun c v h=>?_⟩
   ·rw [a] at h
    split at h
    ·cases h; exact ⟨49,rfl,by decide⟩
    ·split at h
     ·cases h; exact ⟨48,rfl,by decide⟩
     ·exact w.vok c v h
   ·rw [b] at h
    split at h
    ·cases h; exact ⟨48,rfl,by decide⟩
    ·split at h
     ·cases h; exact ⟨49,rfl,by decide⟩
     ·exact w.vok c v h
  walk_at "mo"
  by_cases hk:k<other.length
  ·have ea:atI other (k:Int)=some other[k]:=by rw [zgg_ (by lia),Int.toNat_natCast,List.getElem?_eq_getElem hk]
   rw [decide_eq_true (show (k:Int)<other.length by lia),ea]
   walk_at "mo"
   rw [Mo.lim_ok (by lia),Mo.lim_ok (by lia)]
   walk_at "mo"
   have q:∀ c,(other[k]?=some c)↔other[k]=c:=fun c=>by rw [List.getElem?_eq_getElem hk]; exact ⟨fun z=>Option.some.inj z,fun z=>by rw [z]⟩
   have a1:∀ c,getA (putA lo other[k] [49]) c=if other[k]?=some c then some [49] else if frC m (one.take k) c then some [48] else getA m c:=fun c=>by
    rw [za4_,g3' c]; simp only [q c]
   have a2:∀ c,getA (putA hi other[k] [48]) c=if other[k]?=some c then some [48] else if frC m (one.take k) c then some [49] else getA m c:=fun c=>by
    rw [za4_,g4' c]; simp only [q c]
   obtain ⟨v1,v2⟩:=fin _ _ a1 a2
   rw [cw_eq (mk:=[48,48,48,49]) v2 rfl,cw_eq (mk:=[48,48,48,50]) v1 rfl]
   exact ⟨k,_,_,rfl,k1,k2,k3,k4,v1,v2,a1,a2⟩
  ·rw [decide_eq_false (show ¬ (k:Int)<other.length by lia)]
   walk_at "mo"
   have q:∀ c,¬ (other[k]?=some c):=fun c z=>by rw [List.getElem?_eq_none (by lia)] at z; cases z
   have a1:∀ c,getA lo c=if other[k]?=some c then some [49] else if frC m (one.take k) c then some [48] else getA m c:=fun c=>by rw [if_neg (q c)]; exact g3' c
   have a2:∀ c,getA hi c=if other[k]?=some c then some [48] else if frC m (one.take k) c then some [49] else getA m c:=fun c=>by rw [if_neg (q c)]; exact g4' c
   obtain ⟨v1,v2⟩:=fin _ _ a1 a2
   rw [cw_eq (mk:=[48,48,48,49]) v2 rfl,cw_eq (mk:=[48,48,48,50]) v1 rfl]
   exact ⟨k,_,_,rfl,k1,k2,k3,k4,v1,v2,a1,a2⟩
theorem zgD_ (L:List Int):(onceL L).Nodup:=by
 refine zaU_ (P:=fun L=>(onceL L).Nodup) (by show ([]:List Int).Nodup; simp) (fun L c ih=>?_) L
 rw [zbB_]
 split
 ·exact ih
 ·rename_i h
  rw [List.nodup_append]
  exact ⟨ih,by simp,fun a ha b hb z=>h (by rw [← List.mem_singleton.mp hb,← z]; exact ha)⟩
theorem ziR_ {row:List Pas}{m:List (Int×List Nat)}(hr:∀ p∈row,psOk p):(skey row m).Nodup∧(skey row m).length≤row.length∧∀ c∈skey row m,(1≤c∧c≤36)∧getA m c=none:=by
 refine ⟨zgD_ _,Nat.le_trans (zd2_ _) (Nat.le_trans (List.length_filter_le _ _) (by rw [List.length_reverse]; exact List.length_filterMap_le _ _)),fun c hc=>?_⟩
 obtain ⟨h1,h2⟩:=List.mem_filter.mp (zjw_ hc)
 rw [List.mem_reverse] at h1
 unfold pcols at h1
 obtain ⟨p,hp,hq⟩:=List.mem_filterMap.mp h1
 have h3:=(hr p hp).1
 obtain ⟨c',o⟩:=p
 cases o with
 | some s=>cases hq
 | none =>
  have hq:c'=c:=Option.some.inj hq
  subst hq
  refine ⟨h3,?_⟩
  show getA m c'=none
  cases g:getA m c' with
  | none=>rfl
  | some v=>rw [g] at h2; cases h2
theorem zlk_ {a b:Crd}:∀ {L:List Int},(∀ c∈L,rnk a c=rnk b c)→ahd L a b=false
 | [],_=>rfl
 | c::L,h=>by unfold ahd; rw [if_pos (h c List.mem_cons_self)]; exact zlk_ fun x hx=>h x (List.mem_cons_of_mem _ hx)
theorem zhp_ {a b:Crd}:∀ (k:Nat) {L:List Int}{c:Int},L[k]?=some c→(∀ j x,j<k→L[j]?=some x→rnk a x=rnk b x)→rnk a c≠rnk b c→ahd L a b=decide (rnk a c<rnk b c)
 | 0,[],c,h,_,_=>by cases h
 | 0,x::L,c,h,_,hn=>by cases h; unfold ahd; rw [if_neg hn]
 | k+1,[],c,h,_,_=>by cases h
 | k+1,x::L,c,h,hp,hn=>by
  unfold ahd
  rw [if_pos (hp 0 x (by lia) rfl)]
  exact zhp_ k (by simpa using h) (fun j y hj hy=>hp (j+1) y (by lia) (by simpa using hy)) hn
theorem nd_at {L:List Int}(hn:L.Nodup) {i j:Nat}{c:Int}(h1:L[i]?=some c) (h2:L[j]?=some c):i=j:=by
 obtain ⟨a,e⟩:=List.getElem?_eq_some_iff.mp h1
 obtain ⟨b,e2⟩:=List.getElem?_eq_some_iff.mp h2
 exact (List.getElem_inj hn).mp (e.trans e2.symm)
theorem zfC_ {row:List Pas}{m:List (Int×List Nat)}(w:PkOk row m) {one other:List Int}(n1:one.Nodup) (n2:other.Nodup) (l1:one.length≤1000) (l2:other.length≤1000)
  (c1:∀ c∈one,(1≤c∧c≤36)∧getA m c=none) (c2:∀ c∈other,(1≤c∧c≤36)∧getA m c=none) (hlong:∀ k,k≤one.length→k≤other.length→(∀ j,j<k→one[j]?=other[j]?)→(k<one.length→k<other.length→one[k]?≠other[k]?)→k<one.length) :
  ∃ H Lw,zak_ m one other=.ok [H,Lw]∧isC H∧isC Lw∧H.drop 36≠Lw.drop 36∧pfit row H=true∧pfit row Lw=true∧ahd one Lw H=true∧ahd other Lw H=false:=by
 obtain ⟨k,lo,hi,e,k1,k2,k3,k4,v1,v2,a1,a2⟩:=zha_ w l1 l2
 have hk:=hlong k k1 k2 k3 k4
 have fitS:∀ c v,getA m c=some v→getA lo c=some v∧getA hi c=some v:=fun c v h=>by
  have hs:¬ other[k]?=some c:=fun z=>by have:=(c2 c (List.mem_of_getElem? z)).2; rw [h] at this; cases this
  have hf:¬ frC m (one.take k) c:=fun z=>by have:=z.2.1; rw [h] at this; cases this
  rw [a1,a2,if_neg hs,if_neg hf,if_neg hs,if_neg hf]; exact ⟨h,h⟩
 have pre:∀ j x,j<k→one[j]?=some x→rnk (cw lo mk2) x=rnk (cw hi mk1) x:=fun j x hj hx=>by
  obtain ⟨b1,b2⟩:=(c1 x (List.mem_of_getElem? hx)).1
  have hs:¬ other[k]?=some x:=fun z=>by
   have:=nd_at n2 z ((k3 j hj).symm.trans hx); lia
  have hf:¬ frC m (one.take k) x:=fun z=>z.2.2 (zhf_.mpr ⟨j,hj,hx⟩)
  unfold rnk
  rw [cw_sg _ _ b1 b2,cw_sg _ _ b1 b2]
  unfold sgn
  rw [a1,a2,if_neg hs,if_neg hf,if_neg hs,if_neg hf]
 have hone:one[k]?=some one[k]:=List.getElem?_eq_getElem hk
 have hs:¬ other[k]?=some one[k]:=fun z=>by
  have hk2:k<other.length:=(List.getElem?_eq_some_iff.mp z).1
  exact k4 hk hk2 (hone.trans z.symm)
 have hcol:=c1 one[k] (List.getElem_mem hk)
 have hf:frC m (one.take k) one[k]:=⟨hcol.1,hcol.2,fun z=>by
  obtain ⟨j,hj,hx⟩:=zhf_.mp z
  have:=nd_at n1 hx hone; lia⟩
 have r1:rnk (cw lo mk2) one[k]=rk1 48∧rnk (cw hi mk1) one[k]=rk1 49:=by
  unfold rnk
  rw [cw_sg _ _ hcol.1.1 hcol.1.2,cw_sg _ _ hcol.1.1 hcol.1.2]
  unfold sgn
  rw [a1,a2,if_neg hs,if_pos hf,if_neg hs,if_pos hf]
  exact ⟨rfl,rfl⟩
 have h48:rk1 48<rk1 49:=by decide +kernel
 refine ⟨cw hi mk1,cw lo mk2,e,cw_isC v2 rfl (by decide),cw_isC v1 rfl (by decide),?_,cw_fit w mk1 fun c v h=>(fitS c v h).2,cw_fit w mk2 fun c v h=>(fitS c v h).1,?_,?_⟩
 ·have:∀ s mk,(cw s mk).drop 36=mk:=fun s mk=>by unfold cw; rw [List.drop_left' (by simp)]
  rw [this,this]; decide
 ·rw [zhp_ k hone pre (by rw [r1.1,r1.2]; lia),r1.1,r1.2]; exact decide_eq_true h48
 ·by_cases hk2:k<other.length
  ·have hoth:other[k]?=some other[k]:=List.getElem?_eq_getElem hk2
   have hcol2:=(c2 other[k] (List.getElem_mem hk2)).1
   have r2:rnk (cw lo mk2) other[k]=rk1 49∧rnk (cw hi mk1) other[k]=rk1 48:=by
    unfold rnk
    rw [cw_sg _ _ hcol2.1 hcol2.2,cw_sg _ _ hcol2.1 hcol2.2]
    unfold sgn
    rw [a1,a2,if_pos hoth,if_pos hoth]
    exact ⟨rfl,rfl⟩
   rw [zhp_ k hoth (fun j x hj hx=>pre j x hj ((k3 j hj).trans hx)) (by rw [r2.1,r2.2]; lia),r2.1,r2.2]
   exact decide_eq_false (by lia)
  ·refine zlk_ fun c hc=>?_
   obtain ⟨j,hj,ej⟩:=List.mem_iff_getElem.mp hc
   exact pre j c (by lia) ((k3 j (by lia)).trans (by rw [List.getElem?_eq_getElem hj,ej]))
theorem zig_ {row:List Pas}{m:List (Int×List Nat)}(w:PkOk row m) {L L':List Int}(n1:L.Nodup) (n2:L'.Nodup) (l1:L.length≤1000) (l2:L'.length≤1000)
  (c1:∀ c∈L,(1≤c∧c≤36)∧getA m c=none) (c2:∀ c∈L',(1≤c∧c≤36)∧getA m c=none) (hne:L≠L') :
  ∃ H Lw,zN_ m L L'=.ok (some [H,Lw])∧isC H∧isC Lw∧H.drop 36≠Lw.drop 36∧pfit row H=true∧pfit row Lw=true∧ahd L Lw H≠ahd L' Lw H:=by
 have dec:∀ a b:Int,(fun a b=>decide (a=b)) a b=decide (a=b):=fun _ _=>rfl
 unfold zN_ zai_
 walk_at "mo"
 rw [zdb_ dec,decide_eq_false hne]
 walk_at "mo"
 have eb:zbc_ L' L=.ok (decide (L'.take L.length=L)):=by
  unfold zbc_ zbh_
  walk_at "mo"
  rw [zgx_ (by lia),Int.toNat_natCast,zdb_ dec]
 rw [eb]
 walk_at "mo"
 by_cases hp:L'.take L.length=L
 ·rw [decide_eq_true hp]
  walk_at "mo"
  have hLL:L.length≤L'.length:=by have:=congrArg List.length hp; rw [List.length_take] at this; lia
  obtain ⟨H,Lw,e,i1,i2,i3,i4,i5,i6,i7⟩:=zfC_ w n2 n1 l2 l1 c2 c1 (fun k k1 k2 k3 k4=>by
   have hk:k=L.length:=by
    refine Nat.le_antisymm k2 (Nat.le_of_not_lt fun z=>k4 (by lia) z ?_)
    conv=>rhs; rw [← hp]
    rw [List.getElem?_take,if_pos z]
   refine Nat.lt_of_le_of_ne k1 fun z=>hne ?_
   rw [← hp,List.take_of_length_le (by lia)])
  rw [e]
  exact ⟨H,Lw,rfl,i1,i2,i3,i4,i5,by rw [i6,i7]; decide⟩
 ·rw [decide_eq_false hp]
  walk_at "mo"
  obtain ⟨H,Lw,e,i1,i2,i3,i4,i5,i6,i7⟩:=zfC_ w n1 n2 l1 l2 c1 c2 (fun k k1 k2 k3 k4=>by
   refine Nat.lt_of_le_of_ne k1 fun z=>hp ?_
   apply List.ext_getElem?
   intro j
   rw [List.getElem?_take]
   split
   ·rename_i hj; exact (k3 j (by lia)).symm
   ·rw [List.getElem?_eq_none (by lia)])
  rw [e]
  exact ⟨H,Lw,rfl,i1,i2,i3,i4,i5,by rw [i6,i7]; decide⟩
theorem sK2 (k:Crd→Nat) (a b:Crd):sK k [a,b]=if k b<k a then [b,a] else [a,b]:=by
 show insK k b (insK k a [])=_
 unfold insK
 by_cases h:k b<k a
 ·simp [h,show ¬ k a≤k b by lia]
 ·simp [h,show k a≤k b by lia]
noncomputable def sameS (row other:List Pas):Prop:=(Cf row∧Cf other)∨∃ m m',PkOk row m∧PkOk other m'∧SP row other∧skey row m=skey other m'
theorem sameS.symm {row other:List Pas}(h:sameS row other):sameS other row:=by
 rcases h with ⟨a,b⟩ | ⟨m,m',w,w',h1,h2⟩
 ·exact .inl ⟨b,a⟩
 ·exact .inr ⟨m',m,w',w,fun c s=>(h1 c s).symm,h2.symm⟩
theorem sameS.fold {row other:List Pas}(h:sameS row other) (d:List Crd):row.foldl doP d=other.foldl doP d:=by
 rcases h with ⟨a,b⟩ | ⟨m,m',w,w',h1,h2⟩
 ·rw [zfQ_,zfQ_,show pfit row=fun _=>false from funext a.fit,show pfit other=fun _=>false from funext b.fit]
  rw [show d.filter (fun _=>false)=[] by simp]
  rfl
 ·rw [nf w,nf w',h2,show pfit row=pfit other from funext h1.fit]
noncomputable def Parts (row other:List Pas) (d:List Crd):Prop:=1≤d.length∧d.length≤2∧(∀ c∈d,isC c)∧(∀ a b,d=[a,b]→a.drop 36≠b.drop 36)∧row.foldl doP d≠other.foldl doP d
theorem parts1 {row other:List Pas}{x:Crd}(hx:isC x) (h:row.foldl doP [x]≠other.foldl doP [x]):Parts row other [x]:=⟨by simp,by simp,fun c hc=>by rw [List.mem_singleton.mp hc]; exact hx,fun a b z=>by simp at z,h⟩
theorem ziP_ {row other:List Pas}(hr:∀ p∈row,psOk p) (ho:∀ p∈other,psOk p) (hl:row.length≤1000) (hl':other.length≤1000):(zp_ row other=.ok none∧sameS row other)∨∃ d,zp_ row other=.ok (some d)∧Parts row other d∧¬ sameS row other:=by
 have fin:∀ d,zp_ row other=.ok (some d)→Parts row other d→(zp_ row other=.ok none∧sameS row other)∨∃ d,zp_ row other=.ok (some d)∧Parts row other d∧¬ sameS row other:=fun d e p=>.inr ⟨d,e,p,fun z=>p.2.2.2.2 (z.fold d)⟩
 rcases zfw_ hr (by lia) with ⟨e1,f1⟩ | ⟨m,e1,w⟩
 ·rcases zfw_ ho (by lia) with ⟨e2,f2⟩ | ⟨m',e2,w'⟩
  ·refine .inl ⟨?_,.inl ⟨f1,f2⟩⟩
   unfold zp_ z8_
   walk_at "mo"
   rw [e1,e2]
   rfl
  ·refine fin [cw m' mk1] ?_ (parts1 (cw_isC w'.vok rfl (by decide)) (part1 (f1.fit _) (cw_fit w' mk1 fun c v h=>h)).1)
   unfold zp_ z8_
   walk_at "mo"
   rw [e1,e2]
   walk_at "mo"
   rw [show eqSn none (some (m',skey other m'))=false from rfl]
   walk_at "mo"
   rw [cw_eq (mk:=[48,48,48,49]) w'.vok rfl]
   rfl
 ·rcases zfw_ ho (by lia) with ⟨e2,f2⟩ | ⟨m',e2,w'⟩
  ·refine fin [cw m mk1] ?_ (parts1 (cw_isC w.vok rfl (by decide)) (part1 (f2.fit _) (cw_fit w mk1 fun c v h=>h)).2)
   unfold zp_ z8_
   walk_at "mo"
   rw [e1,e2]
   walk_at "mo"
   rw [show eqSn (some (m,skey row m)) none=false from rfl]
   walk_at "mo"
   rw [cw_eq (mk:=[48,48,48,49]) w.vok rfl]
   rfl
  ·have dec:∀ a b:Int,(fun a b=>decide (a=b)) a b=decide (a=b):=fun _ _=>rfl
   have ee:eqSn (some (m,skey row m)) (some (m',skey other m'))=(eqDm m m' && decide (skey row m=skey other m')):=by
    show (eqDm m m' && eqL (fun a b=>decide (a=b)) (skey row m) (skey other m'))=_
    rw [zdb_ dec]
   by_cases hs:SP row other∧skey row m=skey other m'
   ·refine .inl ⟨?_,.inr ⟨m,m',w,w',hs.1,hs.2⟩⟩
    unfold zp_ z8_
    walk_at "mo"
    rw [e1,e2]
    walk_at "mo"
    rw [ee,(zfu_ w w').mpr hs.1,decide_eq_true hs.2]
    rfl
   ·have e0:eqSn (some (m,skey row m)) (some (m',skey other m'))=false:=by
     rw [ee]
     cases h:eqDm m m' with
     | false=>rfl
     | true=>rw [Bool.true_and]; exact decide_eq_false fun z=>hs ⟨(zfu_ w w').mp h,z⟩
    have top:∀ {r:Option (List (List Nat))},zx_ m m'=.ok r→(r.isNone=true→∃ d,zN_ m (skey row m) (skey other m')=.ok (some d))→∃ d,zp_ row other=.ok (some d)∧((r=some d)∨(r=none∧zN_ m (skey row m) (skey other m')=.ok (some d))):=by
     intro r h1 h2
     cases r with
     | none =>
      obtain ⟨d,hd⟩:=h2 rfl
      refine ⟨d,?_,.inr ⟨rfl,hd⟩⟩
      unfold zp_ z8_
      walk_at "mo"
      rw [e1,e2]
      walk_at "mo"
      rw [e0]
      walk_at "mo"
      rw [h1]
      walk_at "mo"
      rw [hd]
      rfl
     | some d =>
      refine ⟨d,?_,.inl rfl⟩
      unfold zp_ z8_
      walk_at "mo"
      rw [e1,e2]
      walk_at "mo"
      rw [e0]
      walk_at "mo"
      rw [h1]
      rfl
    have pick:∀ x,(zT_ m m'=.ok (some x)∨(zT_ m m'=.ok none∧zT_ m' m=.ok (some x)))→zx_ m m'=.ok (some [x]):=by
     rintro x (h | ⟨h,h'⟩)
     ·unfold zx_ zW_
      walk_at "mo"
      rw [h]
      rfl
     ·unfold zx_ zW_
      walk_at "mo"
      rw [h]
      walk_at "mo"
      rw [h']
      rfl
    rcases ziF_ w w' with ⟨s1,b1⟩ | ⟨x,s1,x1,x2,x3⟩
    ·rcases ziF_ w' w with ⟨s2,b2⟩ | ⟨x,s2,x1,x2,x3⟩
     ·have hsp:SP row other:=fun c s=>⟨b1 c s,b2 c s⟩
      have hne:skey row m≠skey other m':=fun z=>hs ⟨hsp,z⟩
      obtain ⟨n1,l1,c1⟩:=ziR_ (m:=m) hr
      obtain ⟨n2,l2,c2⟩:=ziR_ (m:=m') ho
      have c2':∀ c∈skey other m',(1≤c∧c≤36)∧getA m c=none:=fun c hc=>⟨(c2 c hc).1,by
       cases g:getA m c with
       | none=>rfl
       | some v =>
        have:=w'.all c v ((hsp c v).mp (w.mem c v g))
        rw [(c2 c hc).2] at this; cases this⟩
      obtain ⟨H,Lw,eo,i1,i2,i3,i4,i5,i6⟩:=zig_ w n1 n2 (by lia) (by lia) c1 c2' hne
      have hpk:zx_ m m'=.ok none:=by
       unfold zx_ zW_
       walk_at "mo"
       rw [s1]
       walk_at "mo"
       rw [s2]
       rfl
      obtain ⟨d,hd,hor⟩:=top hpk fun _=>⟨_,eo⟩
      rcases hor with z | ⟨_,z⟩
      ·cases z
      ·rw [eo] at z
       have z':[H,Lw]=d:=by injection z with z; exact Option.some.inj z
       subst z'
       refine fin _ hd ⟨by simp,by simp,fun c hc=>?_,fun a b z=>?_,?_⟩
       ·rcases List.mem_cons.mp hc with rfl | hc
        ·exact i1
        ·rw [List.mem_singleton.mp hc]; exact i2
       ·injection z with z1 z2
        injection z2 with z2
        rw [← z1,← z2]; exact i3
       ·rw [nf w,nf w',show pfit other=pfit row from (funext hsp.fit).symm]
        have hfl:[H,Lw].filter (pfit row)=[H,Lw]:=by simp [i4,i5]
        rw [hfl,sK2,sK2]
        rw [zh7_,zh7_] at i6
        have hHL:[Lw,H]≠[H,Lw]:=fun z=>i3 (by injection z with z; rw [z])
        by_cases q1:kv (skey row m) Lw<kv (skey row m) H
        ·by_cases q2:kv (skey other m') Lw<kv (skey other m') H
         ·rw [decide_eq_true q1,decide_eq_true q2] at i6; exact absurd rfl i6
         ·rw [if_pos q1,if_neg q2]; exact hHL
        ·by_cases q2:kv (skey other m') Lw<kv (skey other m') H
         ·rw [if_neg q1,if_pos q2]; exact hHL.symm
         ·rw [decide_eq_false q1,decide_eq_false q2] at i6; exact absurd rfl i6
     ·obtain ⟨d,hd,hor⟩:=top (pick x (.inr ⟨s1,s2⟩)) fun z=>by cases z
      rcases hor with z | ⟨z,_⟩
      ·cases z; exact fin _ hd (parts1 x1 (part1 x2 x3).2)
      ·cases z
    ·obtain ⟨d,hd,hor⟩:=top (pick x (.inl s1)) fun z=>by cases z
     rcases hor with z | ⟨z,_⟩
     ·cases z; exact fin _ hd (parts1 x1 (part1 x2 x3).1)
     ·cases z
theorem PkOk.deal {dn:List Pas}{m:List (Int×List Nat)}(w:PkOk dn m) (c:Int):PkOk (dn++[(c,none)]) m:=by
 have:=w.len
 refine ⟨fun x=>by rw [w.fit,zbf_]; simp,fun c s z=>List.mem_append_left _ (w.mem c s z),fun c' s' z=>?_,by simp; lia,w.col,w.val,w.nd⟩
 rcases List.mem_append.mp z with z | z
 ·exact w.all c' s' z
 ·simp at z
theorem PkOk.same {dn:List Pas}{m:List (Int×List Nat)}(w:PkOk dn m) {c:Int}{s:List Nat}(g:getA m c=some s):PkOk (dn++[(c,some s)]) m:=by
 have:=w.len
 refine ⟨fun x=>?_,fun c s z=>List.mem_append_left _ (w.mem c s z),fun c' s' z=>?_,by simp; lia,w.col,w.val,w.nd⟩
 ·rw [zbf_,w.fit]
  cases hf:pfit dn x with
  | false=>rfl
  | true =>
   rw [← w.fit,List.all_eq_true] at hf
   have:=hf _ (zbN_ g)
   simpa using this
 ·rcases List.mem_append.mp z with z | z
  ·exact w.all c' s' z
  ·have z:=List.mem_singleton.mp z
   cases z; exact g
theorem PkOk.more {dn:List Pas}{m:List (Int×List Nat)}(w:PkOk dn m) {c:Int}{s:List Nat}(hp:psOk (c,some s)) (g:getA m c=none):PkOk (dn++[(c,some s)]) (m++[(c,s)]):=by
 have hput:=ze9_ s g
 refine ⟨fun x=>?_,fun c' s' z=>?_,fun c' s' z=>?_,by simp; exact w.len,fun q hq=>?_,fun q hq=>?_,?_⟩
 ·rw [List.all_append,w.fit,zbf_]; simp
 ·rw [← hput,za4_] at z
  split at z
  ·rename_i h; subst h; cases z; simp
  ·exact List.mem_append_left _ (w.mem c' s' z)
 ·rw [← hput,za4_]
  rcases List.mem_append.mp z with z | z
  ·have h1:=w.all c' s' z
   rw [if_neg (fun e=>by rw [← e,g] at h1; cases h1)]; exact h1
  ·have z:=List.mem_singleton.mp z
   cases z; rw [if_pos rfl]
 ·rcases List.mem_append.mp hq with h | h
  ·exact w.col q h
  ·rw [List.mem_singleton.mp h]; exact hp.1
 ·rcases List.mem_append.mp hq with h | h
  ·exact w.val q h
  ·rw [List.mem_singleton.mp h]; exact hp.2 s rfl
 ·rw [List.map_append,List.nodup_append]
  refine ⟨w.nd,by simp,fun a ha b hb z=>?_⟩
  have hb:b=c:=by simpa using hb
  obtain ⟨q,hq,hqa⟩:=List.mem_map.mp ha
  unfold getA at g
  cases g2:m.find? (fun q=>decide (q.1=c)) with
  | some q=>rw [g2] at g; cases g
  | none=>exact absurd (hqa.trans (z.trans hb)) (by simpa using List.find?_eq_none.mp g2 q hq)
theorem PkOk.rev {row:List Pas}{m:List (Int×List Nat)}(w:PkOk row.reverse m):PkOk row m :=
 ⟨fun x=>by rw [w.fit]; unfold pfit; rw [List.all_reverse],fun c s h=>List.mem_reverse.mp (w.mem c s h),fun c s h=>w.all c s (List.mem_reverse.mpr h),by have:=w.len; rwa [List.length_reverse] at this,w.col,w.val,w.nd⟩
theorem zlm_ {m:List (Int×List Nat)}(hn:(m.map (·.1)).Nodup) {c:Int}{s:List Nat}(g:getA m c=some s):putA m c s=m:=by
 unfold putA
 rw [if_pos (by rw [List.any_eq_true]; exact ⟨_,zbN_ g,by simp⟩)]
 rw [show m.map (fun q=>if q.1=c then (q.1,s) else q)=m.map id from List.map_congr_left fun q hq=>?_,List.map_id]
 by_cases h:q.1=c
 ·rw [if_pos h]
  have:=zhs_ hn hq
  rw [h,g] at this
  rw [Option.some.inj this]; rfl
 ·rw [if_neg h]; rfl
theorem zgl_ (q:Int→Bool) (L:List Int):(onceL L).filter q=onceL (L.filter q):=by
 refine zaU_ (P:=fun L=>(onceL L).filter q=onceL (L.filter q)) rfl (fun L c ih=>?_) L
 rw [zbB_,List.filter_append]
 cases g:q c with
 | false =>
  rw [show [c].filter q=[] by simp [g],List.append_nil,← ih]
  split
  ·rfl
  ·rw [List.filter_append,show [c].filter q=[] by simp [g],List.append_nil]
 | true =>
  rw [show [c].filter q=[c] by simp [g],zbB_,← ih]
  by_cases h:c∈onceL L
  ·rw [if_pos h,if_pos (List.mem_filter.mpr ⟨h,g⟩)]
  ·rw [if_neg h,if_neg (fun z=>h (List.mem_filter.mp z).1),List.filter_append,show [c].filter q=[c] by simp [g]]
theorem zfZ_ {row:List Pas}{m m':List (Int×List Nat)}(w:PkOk row m) (w':PkOk row m'):skey row m=skey row m':=by
 have:(fun c=>!(getA m c).isSome)=fun c=>!(getA m' c).isSome:=funext fun c=>by
  cases g:getA m c with
  | some s=>rw [w'.all c s (w.mem c s g)]
  | none =>
   cases g':getA m' c with
   | none=>rfl
   | some s=>rw [w.all c s (w'.mem c s g')] at g; cases g
 unfold skey
 rw [this]
theorem zd1_ {row:List Pas}(hr:∀ p∈row,psOk p) (hl:row.length≤1000):(zaw_ row=.ok none∧Cf row)∨∃ m,zaw_ row=.ok (some (m,skey row m))∧PkOk row m:=by
 unfold zaw_ zbW_
 walk_at "mo"
 refine zfJ_ (G:=fun z=>(fnO (thenO z _)=.ok none∧Cf row)∨∃ m,fnO (thenO z _)=.ok (some (m,skey row m))∧PkOk row m) (fun dn (s:List (Int×List Nat)×List Int)=>PkOk dn s.1∧s.2=onceL (pcols dn)) ⟨⟨fun x=>rfl,fun c s z=>(by cases z),fun c s z=>(by cases z),Nat.le_refl _,fun q z=>(by cases z),fun q z=>(by cases z),by simp⟩,rfl⟩ ?_ ?_
 ·rintro dn p ⟨m,key⟩ ⟨r,hrr⟩ ⟨w,hk⟩
  simp only at w hk ⊢
  subst hk
  have hp:psOk p:=hr p (List.mem_reverse.mp (by rw [hrr]; simp))
  have hdl:dn.length≤1000:=by have:=congrArg List.length hrr; rw [List.length_append,List.length_reverse] at this; lia
  have hml:=w.len
  obtain ⟨c,o⟩:=p
  cases o with
  | none =>
   have e:decide (pTag (c,none)=[112,105,99,107])=false:=by show decide (([100,101,97,108]:List Nat)=[112,105,99,107])=false; decide
   have e1:pcols (dn++[(c,none)])=pcols dn++[c]:=by unfold pcols; rw [List.filterMap_append]; rfl
   have hpl:(pcols dn).length≤dn.length:=List.length_filterMap_le _ _
   have hol:=zd2_ (pcols dn)
   simp only [e]
   walk_at "mo"
   rw [e1,zbB_]
   by_cases hc:c∈onceL (pcols dn)
   ·rw [show (onceL (pcols dn)).any (fun y=>decide (y=c))=true by rw [List.any_eq_true]; exact ⟨c,hc,by simp⟩,if_pos hc]
    walk_at "mo"
    exact .inl ⟨_,rfl,w.deal c,rfl⟩
   ·rw [show (onceL (pcols dn)).any (fun y=>decide (y=c))=false by rw [List.any_eq_false]; intro y hy z; simp at z; exact hc (z ▸ hy),if_neg hc]
    walk_at "mo"
    rw [Mo.lim_ok (by lia)]
    walk_at "mo"
    exact .inl ⟨_,rfl,w.deal c,rfl⟩
  | some s =>
   have e:decide (pTag (c,some s)=[112,105,99,107])=true:=rfl
   have e1:pcols (dn++[(c,some s)])=pcols dn:=by unfold pcols; rw [List.filterMap_append]; simp
   simp only [e]
   walk_at "mo"
   rw [e1]
   cases g:getA m c with
   | some s0 =>
    walk_at "mo"
    by_cases hs:s0=s
    ·subst hs
     walk_at "mo"
     rw [Mo.lim_ok (by lia),zlm_ w.nd g]
     walk_at "mo"
     exact .inl ⟨_,rfl,w.same g,rfl⟩
    ·rw [decide_eq_false hs]
     walk_at "mo"
     exact .inr ⟨_,rfl,.inl ⟨rfl,c,s0,s,hs,List.mem_reverse.mp (by rw [hrr]; exact List.mem_append_left _ (w.mem c s0 g)),List.mem_reverse.mp (by rw [hrr]; simp)⟩⟩
   | none =>
    walk_at "mo"
    rw [Mo.lim_ok (by lia),ze9_ s g]
    walk_at "mo"
    exact .inl ⟨_,rfl,w.more hp g,rfl⟩
 ·rintro ⟨m,key⟩ ⟨w,hk⟩
  simp only at w hk ⊢
  subst hk
  refine .inr ⟨m,?_,w.rev⟩
  walk_at "mo"
  have hpl:(pcols row.reverse).length≤row.reverse.length:=List.length_filterMap_le _ _
  have hol:=zd2_ (pcols row.reverse)
  rw [List.length_reverse] at hpl
  rw [zc2_ (g:=fun c=>!(getA m c).isSome) (fun x _=>by unfold cond1; cases (getA m x)<;>rfl) (by simp; lia)]
  walk_at "mo"
  unfold skey
  rw [zgl_,show pcols row.reverse=(pcols row).reverse by unfold pcols; rw [List.filterMap_reverse]]
  rfl
theorem zio_ {row other:List Pas}(hr:∀ p∈row,psOk p) (ho:∀ p∈other,psOk p) (hl:row.length≤1000) (hl':other.length≤1000) :
  ∃ a b,zaw_ row=.ok a∧zaw_ other=.ok b∧(eqSn a b=true↔sameS row other):=by
 rcases zd1_ hr hl with ⟨e,h⟩ | ⟨m,e,w⟩
 ·rcases zd1_ ho hl' with ⟨e',h'⟩ | ⟨m',e',w'⟩
  ·exact ⟨_,_,e,e',fun _=>.inl ⟨h,h'⟩,fun _=>rfl⟩
  ·refine ⟨_,_,e,e',fun z=>(by cases z),fun z=>?_⟩
   rcases z with ⟨_,z⟩ | ⟨m1,m2,w1,w2,_⟩
   ·exact absurd z w'.nc
   ·exact absurd h w1.nc
 ·rcases zd1_ ho hl' with ⟨e',h'⟩ | ⟨m',e',w'⟩
  ·refine ⟨_,_,e,e',fun z=>(by cases z),fun z=>?_⟩
   rcases z with ⟨z,_⟩ | ⟨m1,m2,w1,w2,_⟩
   ·exact absurd z w.nc
   ·exact absurd h' w2.nc
  ·refine ⟨_,_,e,e',?_⟩
   show (eqDm m m' && eqL (fun a b=>decide (a=b)) (skey row m) (skey other m'))=true↔_
   rw [Bool.and_eq_true,zfu_ w w',zdb_ (fun _ _=>rfl),decide_eq_true_iff]
   constructor
   ·rintro ⟨h1,h2⟩; exact .inr ⟨m,m',w,w',h1,h2⟩
   ·rintro (⟨h,_⟩ | ⟨m1,m2,w1,w2,h1,h2⟩)
    ·exact absurd h w.nc
    ·exact ⟨h1,by rw [zfZ_ w w1,zfZ_ w' w2]; exact h2⟩
theorem zdP_ {d:List Crd}{row:List Pas}(hd:∀ c∈d,isC c) (hr:∀ p∈row,psOk p) (hl:d.length≤1000):zaA_ d row=.ok (row.foldl doP d):=by
 unfold zaA_ za1_
 walk_at "mo"
 refine zbT_ (G:=fun m=>fnO (thenO m _)=.ok (row.foldl doP d)) (fun dn s=>s=dn.foldl doP d) rfl ?_ ?_
 ·rintro dn p s ⟨r,hrr⟩ rfl
  have hp:psOk p:=hr p (by rw [hrr]; simp)
  rw [zk5_ (fun x hx=>hd x (zjm_ hx)) hp (Nat.le_trans (zjU_ dn d) hl)]
  walk_at "mo"
  exact ⟨_,rfl,by rw [List.foldl_append]; rfl⟩
 ·rintro s rfl
  rfl
theorem zmf_ {d:List Crd}(h1:1≤d.length) (h2:d.length≤2) (h3:∀ c∈d,isC c) (h4:∀ a b,d=[a,b]→a.drop 36≠b.drop 36):zaN_ (some d)=.ok true:=by
 unfold zaN_ zaO_
 walk_at "mo"
 rw [decide_eq_false (show ¬ (d.length:Int)<1 by lia)]
 walk_at "mo"
 rw [decide_eq_false (show ¬ (2:Int)<d.length by lia)]
 walk_at "mo"
 refine zbT_ (G:=fun z=>fnO (thenO z _)=.ok true) (fun _ _=>True) trivial ?_ ?_
 ·rintro dn x s ⟨r,hrr⟩ _
  have hx:=h3 x (by rw [hrr]; simp)
  rw [lim40 hx,show (x.length:Int)=40 by rw [hx.1]; rfl]
  walk_at "mo"
  rw [zhH_ (fun y hy=>by
   obtain ⟨c,hc,rfl⟩:=List.mem_map.mp hy
   rw [show inS [c] SG=true from decide_eq_true (hx.2 c hc)]
   rfl)]
  exact ⟨(),rfl,trivial⟩
 ·intro s _
  walk_at "mo"
  by_cases hd:d.length=1
  ·rw [decide_eq_true (show (d.length:Int)=1 by lia)]
   rfl
  ·rw [decide_eq_false (show ¬ (d.length:Int)=1 by lia)]
   obtain ⟨a,b,rfl⟩:∃ a b,d=[a,b]:=by
    match d,h1,h2,hd with
    | [a,b],_,_,_=>exact ⟨a,b,rfl⟩
   have ha:=h3 a (by simp)
   have hb:=h3 b (by simp)
   rw [show atI [a,b] 0=some a from rfl,show atI [a,b] 1=some b from rfl]
   walk_at "mo"
   rw [lim40 ha,lim40 hb,zek_ (by lia),zek_ (by lia)]
   walk_at "mo"
   rw [decide_eq_false (show ¬ a.drop (Int.toNat 36)=b.drop (Int.toNat 36) from h4 a b rfl)]
   rfl
theorem zfO_ {row other:List Pas}(hr:∀ p∈row,psOk p) (ho:∀ p∈other,psOk p) (hl:row.length≤1000) (hl':other.length≤1000) :
  ∃ fo,zp_ row other=.ok fo∧zat_ fo row other=.ok true:=by
 obtain ⟨a,b,ea,eb,hs⟩:=zio_ hr ho hl hl'
 rcases ziP_ hr ho hl hl' with ⟨e,h⟩ | ⟨d,e,⟨h1,h2,h3,h4,h5⟩,h⟩
 ·refine ⟨_,e,?_⟩
  unfold zat_ za6_
  walk_at "mo"
  rw [ea,eb]
  walk_at "mo"
  rw [hs.mpr h]
  rfl
 ·refine ⟨_,e,?_⟩
  unfold zat_ za6_
  walk_at "mo"
  rw [ea,eb]
  walk_at "mo"
  have hf:eqSn a b=false:=by
   cases z:eqSn a b with
   | false=>rfl
   | true=>exact absurd (hs.mp z) h
  rw [hf]
  walk_at "mo"
  rw [zmf_ h1 h2 h3 h4]
  walk_at "mo"
  rw [zdP_ h3 hr (by lia),zdP_ h3 ho (by lia)]
  walk_at "mo"
  rw [zdb_ (fun _ _=>rfl),decide_eq_false h5]
  rfl
noncomputable def rOk (n:Nat) (x:List Pas):Prop:=x.length≤n∧∀ p∈x,psOk p
theorem rOk.app {m n:Nat}{x y:List Pas}(h:rOk m x) (h':rOk n y):rOk (m+n) (x++y):=⟨by have:=h.1; have:=h'.1; rw [List.length_append]; lia,fun p hp=>(List.mem_append.mp hp).elim (h.2 p) (h'.2 p)⟩
theorem rOk.one {p:Pas}(h:psOk p):rOk 1 [p]:=⟨by simp,fun q hq=>by rw [List.mem_singleton.mp hq]; exact h⟩
theorem zaI_ {m n:Nat}{x y:List Pas}(h:rOk m x) (h':rOk n y) (hn:m+n≤100000) {β:Type}(k:Mo β):Mo.lim (x.length+y.length) k=k:=Mo.lim_ok (by have:=h.1; have:=h'.1; lia)
theorem rOk.to {n:Nat}{x:List Pas}(h:rOk n x) (hn:n≤1000):x.length≤1000∧∀ p∈x,psOk p:=⟨Nat.le_trans h.1 hn,h.2⟩
theorem zhD_ {row:List Pas}{one:Pas}(hr:∀ p∈row,psOk p) (ho:psOk one) (hl:row.length≤100) (way at':Int):∃ r,zbb_ row way at' one=.ok r∧r.length≤1000∧∀ p∈r,psOk p:=by
 unfold zbb_ zbe_
 walk_at "mo"
 rw [zdb_ (fun _ _=>rfl)]
 by_cases h0:row=[]
 ·rw [decide_eq_true h0]
  walk_at "mo"
  exact ⟨_,rfl,(rOk.one ho).to (by decide)⟩
 rw [decide_eq_false h0]
 walk_at "mo"
 have hpos:0<row.length:=List.length_pos_iff.mpr h0
 rw [zhq_ (by lia)]
 walk_at "mo"
 obtain ⟨old,eo,hin⟩:=zkk_ at' h0
 rw [eo]
 walk_at "mo"
 have hold:=hr old hin
 generalize at' % (row.length:Int)=k
 have c:∀ a b,rOk 100 (cutG row a b):=fun a b=>⟨Nat.le_trans (zg8_ _ _ _) hl,fun p h=>hr p (zjS_ h)⟩
 have o1:=rOk.one hold
 have o2:=rOk.one ho
 by_cases w1:way=1
 ·rw [decide_eq_true w1]
  walk_at "mo"
  rw [zaI_ (c _ _) (c _ _) (by decide)]
  walk_at "mo"
  exact ⟨_,rfl,((c _ _).app (c _ _)).to (by decide)⟩
 rw [decide_eq_false w1]
 walk_at "mo"
 by_cases w2:way=2
 ·rw [decide_eq_true w2]
  walk_at "mo"
  rw [zaI_ (c _ _) o1 (by decide)]
  walk_at "mo"
  rw [zaI_ ((c _ _).app o1) (c _ _) (by decide)]
  walk_at "mo"
  exact ⟨_,rfl,(((c _ _).app o1).app (c _ _)).to (by decide)⟩
 rw [decide_eq_false w2]
 walk_at "mo"
 by_cases w3:way=3
 ·rw [decide_eq_true w3]
  walk_at "mo"
  rw [zaI_ (c _ _) (c _ _) (by decide)]
  walk_at "mo"
  rw [zaI_ ((c _ _).app (c _ _)) o1 (by decide)]
  walk_at "mo"
  rw [zaI_ (((c _ _).app (c _ _)).app o1) (c _ _) (by decide)]
  walk_at "mo"
  exact ⟨_,rfl,((((c _ _).app (c _ _)).app o1).app (c _ _)).to (by decide)⟩
 rw [decide_eq_false w3]
 walk_at "mo"
 by_cases w4:way=4
 ·rw [decide_eq_true w4]
  walk_at "mo"
  rw [zaI_ (c _ _) (c _ _) (by decide)]
  walk_at "mo"
  rw [zaI_ ((c _ _).app (c _ _)) o1 (by decide)]
  walk_at "mo"
  exact ⟨_,rfl,(((c _ _).app (c _ _)).app o1).to (by decide)⟩
 rw [decide_eq_false w4]
 walk_at "mo"
 by_cases w5:way=5
 ·rw [decide_eq_true w5]
  walk_at "mo"
  rw [zaI_ o1 (c _ _) (by decide)]
  walk_at "mo"
  rw [zaI_ (o1.app (c _ _)) (c _ _) (by decide)]
  walk_at "mo"
  exact ⟨_,rfl,((o1.app (c _ _)).app (c _ _)).to (by decide)⟩
 rw [decide_eq_false w5]
 walk_at "mo"
 by_cases w6:way=6
 ·rw [decide_eq_true w6]
  walk_at "mo"
  have o3:rOk 1 [((one.1,old.2):Pas)]:=rOk.one ⟨ho.1,hold.2⟩
  rw [Mo.grd_ok (show pTag old=pTag (0,old.2) from rfl)]
  walk_at "mo"
  rw [zaI_ (c _ _) o3 (by decide)]
  walk_at "mo"
  rw [zaI_ ((c _ _).app o3) (c _ _) (by decide)]
  walk_at "mo"
  exact ⟨_,rfl,(((c _ _).app o3).app (c _ _)).to (by decide)⟩
 rw [decide_eq_false w6]
 walk_at "mo"
 obtain ⟨oc,os⟩:=old
 obtain ⟨nc,ns'⟩:=one
 have swap:∀ s,ns'=some s→rOk 1 [((oc,some s):Pas)]:=fun s e=>rOk.one ⟨hold.1,fun t z=>by cases z; exact ho.2 s e⟩
 have h7:(if decide (way=7)=true then (if decide ((if os.isSome=true then (3:Int) else 2)=3)=true then Mo.ok (decide ((if ns'.isSome=true then (3:Int) else 2)=3)) else Mo.ok false) else Mo.ok false:Mo Bool)=.ok (decide (way=7) && (os.isSome && ns'.isSome)):=by
  cases decide (way=7)<;>cases os<;>cases ns'<;>rfl
 simp only at h7 ⊢
 rw [h7]
 walk_at "mo"
 cases h7b:(decide (way=7) && (os.isSome && ns'.isSome)) with
 | true =>
  obtain ⟨s,rfl⟩:∃ s,ns'=some s:=by
   cases ns' with
   | none=>simp at h7b
   | some s=>exact ⟨s,rfl⟩
  walk_at "mo"
  rw [zaI_ (c _ _) (swap s rfl) (by decide)]
  walk_at "mo"
  rw [zaI_ ((c _ _).app (swap s rfl)) (c _ _) (by decide)]
  walk_at "mo"
  exact ⟨_,rfl,(((c _ _).app (swap s rfl)).app (c _ _)).to (by decide)⟩
 | false =>
 walk_at "mo"
 by_cases w8:way=8
 ·rw [decide_eq_true w8]
  walk_at "mo"
  rw [zaI_ (c _ _) o2 (by decide)]
  walk_at "mo"
  rw [zaI_ ((c _ _).app o2) (c _ _) (by decide)]
  walk_at "mo"
  exact ⟨_,rfl,(((c _ _).app o2).app (c _ _)).to (by decide)⟩
 rw [decide_eq_false w8]
 walk_at "mo"
 have h9:(if decide (way=9)=true then Mo.ok (decide ((if ns'.isSome=true then (3:Int) else 2)=3)) else Mo.ok false:Mo Bool)=.ok (decide (way=9) && ns'.isSome):=by
  cases decide (way=9)<;>cases ns'<;>rfl
 rw [h9]
 walk_at "mo"
 cases h9b:(decide (way=9) && ns'.isSome) with
 | true =>
  obtain ⟨s,rfl⟩:∃ s,ns'=some s:=by
   cases ns' with
   | none=>simp at h9b
   | some s=>exact ⟨s,rfl⟩
  walk_at "mo"
  rw [zaI_ (c _ _) (swap s rfl) (by decide)]
  walk_at "mo"
  rw [zaI_ ((c _ _).app (swap s rfl)) (c _ _) (by decide)]
  walk_at "mo"
  exact ⟨_,rfl,(((c _ _).app (swap s rfl)).app (c _ _)).to (by decide)⟩
 | false =>
 walk_at "mo"
 exact ⟨_,rfl,Nat.le_trans hl (by decide),hr⟩
theorem zfK_ (ns:List Int) (k:Int) (h:0≤k):∃ c,z6_ ns k=.ok c:=by
 unfold z6_ zbi_
 walk_at "mo"
 by_cases hk:k<(ns.length:Int)
 ·obtain ⟨x,e,_⟩:=zb6_ h hk
  rw [decide_eq_true hk,if_pos rfl,e]
  exact ⟨x,rfl⟩
 ·rw [decide_eq_false hk,if_neg (by decide)]
  exact ⟨0,rfl⟩
theorem zjn_ (ns:List Int) (hl:ns.length≤63):zlE_ ns=.ok true:=by
 obtain ⟨c0,e0⟩:=zfK_ ns 0 (by decide)
 obtain ⟨c1,e1⟩:=zfK_ ns 1 (by decide)
 obtain ⟨c2,e2⟩:=zfK_ ns 2 (by decide)
 obtain ⟨c3,e3⟩:=zfK_ ns 3 (by decide)
 unfold zlE_ zlB_
 walk_at "mo"
 rw [e0,e1,e2,e3]
 walk_at "mo"
 have hst:0≤c1 % 36∧c1 % 36<36:=by lia
 generalize c1 % 36=st at hst
 rw [limSG,limSG,zek_ hst.1,zgx_ hst.1]
 walk_at "mo"
 have hh:heroOk (SG.drop st.toNat++SG.take st.toNat):=by
  refine ⟨?_,fun x hx=>?_⟩
  ·have:SG.length=37:=by decide
   rw [List.length_append,List.length_drop,List.length_take]; lia
  ·rcases List.mem_append.mp hx with h | h
   ·exact List.mem_of_mem_drop h
   ·exact List.mem_of_mem_take h
 rw [Mo.lim_ok (by have:=hh.1; rw [List.length_append] at this; lia)]
 walk_at "mo"
 generalize SG.drop st.toNat++SG.take st.toNat=hero at hh
 have pick:∀ (xs:List Int) (k:Int),(∀ x∈xs,0<x)→0≤k→k<xs.length→∃ x,atI xs k=some x∧0<x:=fun xs k h h0 h1=>by
  obtain ⟨x,e,hx⟩:=zb6_ h0 h1
  exact ⟨x,e,h x hx⟩
 obtain ⟨reach,ere,hre⟩:=pick [2,1,4,36] (c0 % 4) (by decide) (by lia) (by simp; lia)
 rw [ere]
 walk_at "mo"
 obtain ⟨share,esh,_⟩:=zb6_ (xs:=[(2:Int),0,4]) (k:=c0 / 4 % 3) (by lia) (by simp; lia)
 rw [esh]
 walk_at "mo"
 have hcl:=zg8_ ns (some 4) (some 44)
 refine zbT_ (G:=fun m=>fnO (thenO m _)=.ok true) (fun dn (s:List Pas)=>s.length=dn.length∧∀ p∈s,psOk p) ⟨rfl,by simp⟩ ?_ ?_
 ·rintro dn x row ⟨r,hr⟩ ⟨w2,w3⟩
  have hdn:dn.length≤64:=by
   have:=congrArg List.length hr
   rw [List.length_append] at this; lia
  obtain ⟨p,ep,hp⟩:=zi2_ x hh st hre share
  rw [ep]
  walk_at "mo"
  rw [Mo.lim_ok (by lia)]
  refine ⟨_,rfl,by simp; exact w2,fun q hq=>?_⟩
  rcases List.mem_append.mp hq with h | h
  ·exact w3 q h
  ·rw [List.mem_singleton.mp h]; exact hp
 ·rintro row ⟨w2,w3⟩
  have hrl:row.length≤63:=by lia
  walk_at "mo"
  obtain ⟨one,eone,hone⟩:=zi2_ (c3 / 11) hh st (reach:=reach+1) (by lia) 4
  rw [eone]
  walk_at "mo"
  obtain ⟨oth,eo,hol,ho⟩:=zhD_ w3 hone (by lia) (c3 % 11) c2
  rw [eo]
  walk_at "mo"
  obtain ⟨f,ef,pf⟩:=zfO_ w3 ho (by lia) hol
  obtain ⟨g,eg,pg⟩:=zfO_ ho w3 hol (by lia)
  have es:zp_ row row=.ok none:=by
   rcases ziP_ w3 w3 (by lia) (by lia) with ⟨e,_⟩ | ⟨d,e,p,n⟩
   ·exact e
   ·exact absurd rfl p.2.2.2.2
  rw [ef]
  walk_at "mo"
  rw [pf,zeV_ (by simp),zeV_ (by simp)]
  walk_at "mo"
  rw [eg]
  walk_at "mo"
  rw [pg]
  walk_at "mo"
  rw [es]
  walk_at "mo"
end K17
namespace K17
open PySem PySem.Spec PyProof.Rows L2
theorem zmd_ {K:Fgg}:RD_law K:=ziy_ (fun ns hl hb=>zjn_ ns hl)
theorem all_mk {l:PySem.W.OpenLaw}{w:World}{K:Fgg}{h:Heap}{mg:Str→Option Value}{fa:Addr}(X:K.In h) (G:h.Ns mainGlobals mg) (hfa:mg "law" = some (.ref fa))
  {f0:Addr}{od0 an0:Option Addr}{sl0:Array (Option Value)}{oc0 kV0 dc0 pm0 cd0 ct0:Value}
  {f1:Addr}{od1 an1:Option Addr}{sl1:Array (Option Value)}{oc1 kV1 dc1 pm1 cd1 ct1:Value}
  {f2:Addr}{od2 an2:Option Addr}{sl2:Array (Option Value)}{oc2 kV2 dc2 pm2 cd2 ct2:Value}
  {f3:Addr}{od3 an3:Option Addr}{sl3:Array (Option Value)}{oc3 kV3 dc3 pm3 cd3 ct3:Value}
  {f4:Addr}{od4 an4:Option Addr}{sl4:Array (Option Value)}{oc4 kV4 dc4 pm4 cd4 ct4:Value}
  {f5:Addr}{od5 an5:Option Addr}{sl5:Array (Option Value)}{oc5 kV5 dc5 pm5 cd5 ct5:Value}
  {f6:Addr}{od6 an6:Option Addr}{sl6:Array (Option Value)}{oc6 kV6 dc6 pm6 cd6 ct6:Value}
  {f7:Addr}{od7 an7:Option Addr}{sl7:Array (Option Value)}{oc7 kV7 dc7 pm7 cd7 ct7:Value}
  {f8:Addr}{od8 an8:Option Addr}{sl8:Array (Option Value)}{oc8 kV8 dc8 pm8 cd8 ct8:Value}
  {f9:Addr}{od9 an9:Option Addr}{sl9:Array (Option Value)}{oc9 kV9 dc9 pm9 cd9 ct9:Value}
  {f10:Addr}{od10 an10:Option Addr}{sl10:Array (Option Value)}{oc10 kV10 dc10 pm10 cd10 ct10:Value}
  {f11:Addr}{od11 an11:Option Addr}{sl11:Array (Option Value)}{oc11 kV11 dc11 pm11 cd11 ct11:Value}
  {f12:Addr}{od12 an12:Option Addr}{sl12:Array (Option Value)}{oc12 kV12 dc12 pm12 cd12 ct12:Value}
  {f13:Addr}{od13 an13:Option Addr}{sl13:Array (Option Value)}{oc13 kV13 dc13 pm13 cd13 ct13:Value}
  {f14:Addr}{od14 an14:Option Addr}{sl14:Array (Option Value)}{oc14 kV14 dc14 pm14 cd14 ct14:Value}
  {f15:Addr}{od15 an15:Option Addr}{sl15:Array (Option Value)}{oc15 kV15 dc15 pm15 cd15 ct15:Value}
  {f16:Addr}{od16 an16:Option Addr}{sl16:Array (Option Value)}{oc16 kV16 dc16 pm16 cd16 ct16:Value}
  {f17:Addr}{od17 an17:Option Addr}{sl17:Array (Option Value)}{oc17 kV17 dc17 pm17 cd17 ct17:Value}
  {f18:Addr}{od18 an18:Option Addr}{sl18:Array (Option Value)}{oc18 kV18 dc18 pm18 cd18 ct18:Value}
  (a0:PySem.W.nsIn K mainGlobals "_law_cell_at" = some (some (.ref f0))) (l0:K.lookup f0=some ⟨oc0,od0,.func (PySem.W.fnOf "_law_cell_at" "_law_cell_at" (defArgs z1_) (defBody z1_) (defScope z1_) .none kV0 dc0 pm0 an0 cd0 ct0),sl0⟩) (c0:PySem.W.codeIn K cd0 "_law_cell_at" = true) (k0:PySem.W.keepIn K (.ref f0)=true)
  (a1:PySem.W.nsIn K mainGlobals "_law_pass" = some (some (.ref f1))) (l1:K.lookup f1=some ⟨oc1,od1,.func (PySem.W.fnOf "_law_pass" "_law_pass" (defArgs zaF_) (defBody zaF_) (defScope zaF_) .none kV1 dc1 pm1 an1 cd1 ct1),sl1⟩) (c1:PySem.W.codeIn K cd1 "_law_pass" = true) (k1:PySem.W.keepIn K (.ref f1)=true)
  (a2:PySem.W.nsIn K mainGlobals "_law_changed" = some (some (.ref f2))) (l2:K.lookup f2=some ⟨oc2,od2,.func (PySem.W.fnOf "_law_changed" "_law_changed" (defArgs zZ_) (defBody zZ_) (defScope zZ_) .none kV2 dc2 pm2 an2 cd2 ct2),sl2⟩) (c2:PySem.W.codeIn K cd2 "_law_changed" = true) (k2:PySem.W.keepIn K (.ref f2)=true)
  (a3:PySem.W.nsIn K mainGlobals "picked_signs" = some (some (.ref f3))) (l3:K.lookup f3=some ⟨oc3,od3,.func (PySem.W.fnOf "picked_signs" "picked_signs" (defArgs zU_) (defBody zU_) (defScope zU_) .none kV3 dc3 pm3 an3 cd3 ct3),sl3⟩) (c3:PySem.W.codeIn K cd3 "picked_signs" = true) (k3:PySem.W.keepIn K (.ref f3)=true)
  (a4:PySem.W.nsIn K mainGlobals "sense_of" = some (some (.ref f4))) (l4:K.lookup f4=some ⟨oc4,od4,.func (PySem.W.fnOf "sense_of" "sense_of" (defArgs zaH_) (defBody zaH_) (defScope zaH_) .none kV4 dc4 pm4 an4 cd4 ct4),sl4⟩) (c4:PySem.W.codeIn K cd4 "sense_of" = true) (k4:PySem.W.keepIn K (.ref f4)=true)
  (a5:PySem.W.nsIn K mainGlobals "card_with" = some (some (.ref f5))) (l5:K.lookup f5=some ⟨oc5,od5,.func (PySem.W.fnOf "card_with" "card_with" (defArgs zan_) (defBody zan_) (defScope zan_) .none kV5 dc5 pm5 an5 cd5 ct5),sl5⟩) (c5:PySem.W.codeIn K cd5 "card_with" = true) (k5:PySem.W.keepIn K (.ref f5)=true)
  (a6:PySem.W.nsIn K mainGlobals "stopped_card" = some (some (.ref f6))) (l6:K.lookup f6=some ⟨oc6,od6,.func (PySem.W.fnOf "stopped_card" "stopped_card" (defArgs zQ_) (defBody zQ_) (defScope zQ_) .none kV6 dc6 pm6 an6 cd6 ct6),sl6⟩) (c6:PySem.W.codeIn K cd6 "stopped_card" = true) (k6:PySem.W.keepIn K (.ref f6)=true)
  (a7:PySem.W.nsIn K mainGlobals "parting_of_picks" = some (some (.ref f7))) (l7:K.lookup f7=some ⟨oc7,od7,.func (PySem.W.fnOf "parting_of_picks" "parting_of_picks" (defArgs zw_) (defBody zw_) (defScope zw_) .none kV7 dc7 pm7 an7 cd7 ct7),sl7⟩) (c7:PySem.W.codeIn K cd7 "parting_of_picks" = true) (k7:PySem.W.keepIn K (.ref f7)=true)
  (a8:PySem.W.nsIn K mainGlobals "begins_with" = some (some (.ref f8))) (l8:K.lookup f8=some ⟨oc8,od8,.func (PySem.W.fnOf "begins_with" "begins_with" (defArgs z0_) (defBody z0_) (defScope z0_) .none kV8 dc8 pm8 an8 cd8 ct8),sl8⟩) (c8:PySem.W.codeIn K cd8 "begins_with" = true) (k8:PySem.W.keepIn K (.ref f8)=true)
  (a9:PySem.W.nsIn K mainGlobals "shared_length" = some (some (.ref f9))) (l9:K.lookup f9=some ⟨oc9,od9,.func (PySem.W.fnOf "shared_length" "shared_length" (defArgs zH_) (defBody zH_) (defScope zH_) .none kV9 dc9 pm9 an9 cd9 ct9),sl9⟩) (c9:PySem.W.codeIn K cd9 "shared_length" = true) (k9:PySem.W.keepIn K (.ref f9)=true)
  (a10:PySem.W.nsIn K mainGlobals "crossed_deck" = some (some (.ref f10))) (l10:K.lookup f10=some ⟨oc10,od10,.func (PySem.W.fnOf "crossed_deck" "crossed_deck" (defArgs zO_) (defBody zO_) (defScope zO_) .none kV10 dc10 pm10 an10 cd10 ct10),sl10⟩) (c10:PySem.W.codeIn K cd10 "crossed_deck" = true) (k10:PySem.W.keepIn K (.ref f10)=true)
  (a11:PySem.W.nsIn K mainGlobals "parting_of_orders" = some (some (.ref f11))) (l11:K.lookup f11=some ⟨oc11,od11,.func (PySem.W.fnOf "parting_of_orders" "parting_of_orders" (defArgs zq_) (defBody zq_) (defScope zq_) .none kV11 dc11 pm11 an11 cd11 ct11),sl11⟩) (c11:PySem.W.codeIn K cd11 "parting_of_orders" = true) (k11:PySem.W.keepIn K (.ref f11)=true)
  (a12:PySem.W.nsIn K mainGlobals "parting_of" = some (some (.ref f12))) (l12:K.lookup f12=some ⟨oc12,od12,.func (PySem.W.fnOf "parting_of" "parting_of" (defArgs z7_) (defBody z7_) (defScope z7_) .none kV12 dc12 pm12 an12 cd12 ct12),sl12⟩) (c12:PySem.W.codeIn K cd12 "parting_of" = true) (k12:PySem.W.keepIn K (.ref f12)=true)
  (a13:PySem.W.nsIn K mainGlobals "_law_sense" = some (some (.ref f13))) (l13:K.lookup f13=some ⟨oc13,od13,.func (PySem.W.fnOf "_law_sense" "_law_sense" (defArgs zam_) (defBody zam_) (defScope zam_) .none kV13 dc13 pm13 an13 cd13 ct13),sl13⟩) (c13:PySem.W.codeIn K cd13 "_law_sense" = true) (k13:PySem.W.keepIn K (.ref f13)=true)
  (a14:PySem.W.nsIn K mainGlobals "_law_are_cards" = some (some (.ref f14))) (l14:K.lookup f14=some ⟨oc14,od14,.func (PySem.W.fnOf "_law_are_cards" "_law_are_cards" (defArgs zI_) (defBody zI_) (defScope zI_) .none kV14 dc14 pm14 an14 cd14 ct14),sl14⟩) (c14:PySem.W.codeIn K cd14 "_law_are_cards" = true) (k14:PySem.W.keepIn K (.ref f14)=true)
  (a15:PySem.W.nsIn K mainGlobals "_law_done" = some (some (.ref f15))) (l15:K.lookup f15=some ⟨oc15,od15,.func (PySem.W.fnOf "_law_done" "_law_done" (defArgs zaE_) (defBody zaE_) (defScope zaE_) .none kV15 dc15 pm15 an15 cd15 ct15),sl15⟩) (c15:PySem.W.codeIn K cd15 "_law_done" = true) (k15:PySem.W.keepIn K (.ref f15)=true)
  (a16:PySem.W.nsIn K mainGlobals "_law_all_done" = some (some (.ref f16))) (l16:K.lookup f16=some ⟨oc16,od16,.func (PySem.W.fnOf "_law_all_done" "_law_all_done" (defArgs zS_) (defBody zS_) (defScope zS_) .none kV16 dc16 pm16 an16 cd16 ct16),sl16⟩) (c16:PySem.W.codeIn K cd16 "_law_all_done" = true) (k16:PySem.W.keepIn K (.ref f16)=true)
  (a17:PySem.W.nsIn K mainGlobals "_law_parted" = some (some (.ref f17))) (l17:K.lookup f17=some ⟨oc17,od17,.func (PySem.W.fnOf "_law_parted" "_law_parted" (defArgs z9_) (defBody z9_) (defScope z9_) .none kV17 dc17 pm17 an17 cd17 ct17),sl17⟩) (c17:PySem.W.codeIn K cd17 "_law_parted" = true) (k17:PySem.W.keepIn K (.ref f17)=true)
  (a18:PySem.W.nsIn K mainGlobals "law" = some (some (.ref f18))) (l18:K.lookup f18=some ⟨oc18,od18,.func (PySem.W.fnOf "law" "law" (defArgs zgs_) (defBody zgs_) (defScope zgs_) .none kV18 dc18 pm18 an18 cd18 ct18),sl18⟩) (c18:PySem.W.codeIn K cd18 "law" = true) (k18:PySem.W.keepIn K (.ref f18)=true)
  {uc0:Value}(x0:PySem.W.nsIn K mainGlobals "BODY_WIDTH" = some (some uc0)) (y0:RelV (.int 36) uc0)
  {uc1:Value}(x1:PySem.W.nsIn K mainGlobals "LOW" = some (some uc1)) (y1:RelV (tx [48]) uc1)
  {uc2:Value}(x2:PySem.W.nsIn K mainGlobals "HIGH" = some (some uc2)) (y2:RelV (tx [49]) uc2)
  {uc3:Value}(x3:PySem.W.nsIn K mainGlobals "ONE_MARK" = some (some uc3)) (y3:RelV (tx [48,48,48,49]) uc3)
  {uc4:Value}(x4:PySem.W.nsIn K mainGlobals "OTHER_MARK" = some (some uc4)) (y4:RelV (tx [48,48,48,50]) uc4)
  (z0:PySem.W.nsIn K mainGlobals "len" = some none)
  (z1:PySem.W.nsIn K mainGlobals "list" = some none)
  (z2:PySem.W.nsIn K mainGlobals "reversed" = some none)
  (z3:PySem.W.nsIn K mainGlobals "range" = some none)
  (z4:PySem.W.nsIn K mainGlobals "sorted" = some none)
  (z5:PySem.W.nsIn K mainGlobals "dict" = some none)
  (z6:PySem.W.nsIn K mainGlobals "min" = some none)
  (z7:PySem.W.nsIn K mainGlobals "isinstance" = some none)
  (z8:PySem.W.nsIn K mainGlobals "str" = some none) :
  ∃ fd:FuncData,(∀ (s:Shared) (v:Value),BindsTo s fd ⟨[v],[]⟩ [("_law_script",v)])∧∀ base:Heap,K.In base→base.Ns mainGlobals mg→FnOk l.prog w K mg base CX0 5 fa fd ["_law_script"] (zeE_ K):=by
 have e:=hfa.symm.trans (PySem.W.mg_of X G a18)
 cases e
 have F0:=zbD_ (st:=z1_) l0 c0 k0
 have b0:=F0.binds (ps:=Qn9) fun _ _ _ _ _ _ us hl=>match us,hl with | [_,_],_=>rfl
 have F1:=zbD_ (st:=zaF_) l1 c1 k1
 have b1:=F1.binds (ps:=Qn4) fun _ _ _ _ _ _ us hl=>match us,hl with | [_,_,_,_,_],_=>rfl
 have F2:=zbD_ (st:=zZ_) l2 c2 k2
 have b2:=F2.binds (ps:=Qn8) fun _ _ _ _ _ _ us hl=>match us,hl with | [_,_,_,_],_=>rfl
 have F3:=zbD_ (st:=zU_) l3 c3 k3
 have b3:=F3.binds (ps:=["row"]) fun _ _ _ _ _ _ us hl=>match us,hl with | [_],_=>rfl
 have F4:=zbD_ (st:=zaH_) l4 c4 k4
 have b4:=F4.binds (ps:=["row"]) fun _ _ _ _ _ _ us hl=>match us,hl with | [_],_=>rfl
 have F5:=zbD_ (st:=zan_) l5 c5 k5
 have b5:=F5.binds (ps:=Qn17) fun _ _ _ _ _ _ us hl=>match us,hl with | [_,_],_=>rfl
 have F6:=zbD_ (st:=zQ_) l6 c6 k6
 have b6:=F6.binds (ps:=Qn14) fun _ _ _ _ _ _ us hl=>match us,hl with | [_,_],_=>rfl
 have F7:=zbD_ (st:=zw_) l7 c7 k7
 have b7:=F7.binds (ps:=Qn14) fun _ _ _ _ _ _ us hl=>match us,hl with | [_,_],_=>rfl
 have F8:=zbD_ (st:=z0_) l8 c8 k8
 have b8:=F8.binds (ps:=Qn10) fun _ _ _ _ _ _ us hl=>match us,hl with | [_,_],_=>rfl
 have F9:=zbD_ (st:=zH_) l9 c9 k9
 have b9:=F9.binds (ps:=["one", "other"]) fun _ _ _ _ _ _ us hl=>match us,hl with | [_,_],_=>rfl
 have F10:=zbD_ (st:=zO_) l10 c10 k10
 have b10:=F10.binds (ps:=Qn3) fun _ _ _ _ _ _ us hl=>match us,hl with | [_,_,_],_=>rfl
 have F11:=zbD_ (st:=zq_) l11 c11 k11
 have b11:=F11.binds (ps:=Qn3) fun _ _ _ _ _ _ us hl=>match us,hl with | [_,_,_],_=>rfl
 have F12:=zbD_ (st:=z7_) l12 c12 k12
 have b12:=F12.binds (ps:=["row", "other"]) fun _ _ _ _ _ _ us hl=>match us,hl with | [_,_],_=>rfl
 have F13:=zbD_ (st:=zam_) l13 c13 k13
 have b13:=F13.binds (ps:=["_law_row"]) fun _ _ _ _ _ _ us hl=>match us,hl with | [_],_=>rfl
 have F14:=zbD_ (st:=zI_) l14 c14 k14
 have b14:=F14.binds (ps:=["_law_found"]) fun _ _ _ _ _ _ us hl=>match us,hl with | [_],_=>rfl
 have F15:=zbD_ (st:=zaE_) l15 c15 k15
 have b15:=F15.binds (ps:=["_law_deck", "_law_one"]) fun _ _ _ _ _ _ us hl=>match us,hl with | [_,_],_=>rfl
 have F16:=zbD_ (st:=zS_) l16 c16 k16
 have b16:=F16.binds (ps:=["_law_deck", "_law_row"]) fun _ _ _ _ _ _ us hl=>match us,hl with | [_,_],_=>rfl
 have F17:=zbD_ (st:=z9_) l17 c17 k17
 have b17:=F17.binds (ps:=Qn2) fun _ _ _ _ _ _ us hl=>match us,hl with | [_,_,_],_=>rfl
 have F18:=zbD_ (st:=zgs_) l18 c18 k18
 refine ⟨PySem.W.fnOf "law" "law" (defArgs zgs_) (defBody zgs_) (defScope zgs_) .none kV18 dc18 pm18 an18 cd18 ct18,fun s v=>.of_eq rfl,fun base _ _=>?_⟩
 have C_BODY_WIDTH:Gc mg "BODY_WIDTH" (.int 36):=⟨_,PySem.W.mg_of X G x0,y0⟩
 have C_LOW:Gc mg "LOW" (tx [48]):=⟨_,PySem.W.mg_of X G x1,y1⟩
 have C_HIGH:Gc mg "HIGH" (tx [49]):=⟨_,PySem.W.mg_of X G x2,y2⟩
 have C_ONE_MARK:Gc mg "ONE_MARK" (tx [48,48,48,49]):=⟨_,PySem.W.mg_of X G x3,y3⟩
 have C_OTHER_MARK:Gc mg "OTHER_MARK" (tx [48,48,48,50]):=⟨_,PySem.W.mg_of X G x4,y4⟩
 have B_len:Gb mg "len" := PySem.W.mg_none_of X G z0
 have B_list:Gb mg "list" := PySem.W.mg_none_of X G z1
 have B_reversed:Gb mg "reversed" := PySem.W.mg_none_of X G z2
 have B_range:Gb mg "range" := PySem.W.mg_none_of X G z3
 have B_sorted:Gb mg "sorted" := PySem.W.mg_none_of X G z4
 have B_dict:Gb mg "dict" := PySem.W.mg_none_of X G z5
 have B_min:Gb mg "min" := PySem.W.mg_none_of X G z6
 have B_isinstance:Gb mg "isinstance" := PySem.W.mg_none_of X G z7
 have B_str:Gb mg "str" := PySem.W.mg_none_of X G z8
 have G_law_cell_at:Gd l.prog w K mg base CX0 1 "_law_cell_at" Qn9 (zv_ K):=⟨_,_,zea_ B_len F0 zdp_ zeb_,PySem.W.mg_of X G a0,k0,b0⟩
 have G_law_pass:Gd l.prog w K mg base CX0 1 "_law_pass" Qn4 (zag_ K):=⟨_,_,zgj_  F1 zfm_ zgo_,PySem.W.mg_of X G a1,k1,b1⟩
 have G_law_changed:Gd l.prog w K mg base CX0 1 "_law_changed" Qn8 (zV_ K):=⟨_,_,zd5_ B_len B_list F2 zdF_ zd4_,PySem.W.mg_of X G a2,k2,b2⟩
 have G_picked_signs:Gd l.prog w K mg base CX0 1 "picked_signs" ["row"] (zK_ K):=⟨_,_,zdo_  F3 zdj_ zdC_,PySem.W.mg_of X G a3,k3,b3⟩
 have G_sense_of:Gd l.prog w K mg base CX0 2 "sense_of" ["row"] (zah_ K):=⟨_,_,zgc_ G_picked_signs B_reversed F4 zfk_ zge_,PySem.W.mg_of X G a4,k4,b4⟩
 have G_card_with:Gd l.prog w K mg base CX0 1 "card_with" Qn17 (zt_ K):=⟨_,_,zfd_ C_BODY_WIDTH B_range F5 zeO_ ze7_,PySem.W.mg_of X G a5,k5,b5⟩
 have G_stopped_card:Gd l.prog w K mg base CX0 2 "stopped_card" Qn14 (zy_ K):=⟨_,_,zdz_ G_card_with C_LOW C_HIGH C_ONE_MARK B_sorted B_dict F6 zc5_ zdE_,PySem.W.mg_of X G a6,k6,b6⟩
 have G_parting_of_picks:Gd l.prog w K mg base CX0 3 "parting_of_picks" Qn14 (zr_ K):=⟨_,_,zcp_ G_stopped_card F7 zbZ_ zcq_,PySem.W.mg_of X G a7,k7,b7⟩
 have G_begins_with:Gd l.prog w K mg base CX0 1 "begins_with" Qn10 (zP_ K):=⟨_,_,zef_ B_len F8 zdv_ zej_,PySem.W.mg_of X G a8,k8,b8⟩
 have G_shared_length:Gd l.prog w K mg base CX0 1 "shared_length" ["one", "other"] (zB_ K):=⟨_,_,zc6_ B_min B_len F9 zcH_ zda_,PySem.W.mg_of X G a9,k9,b9⟩
 have G_crossed_deck:Gd l.prog w K mg base CX0 2 "crossed_deck" Qn3 (zz_ K):=⟨_,_,zdw_ G_shared_length G_card_with C_BODY_WIDTH C_LOW C_HIGH C_OTHER_MARK C_ONE_MARK B_dict B_range B_len F10 zc9_ zdn_,PySem.W.mg_of X G a10,k10,b10⟩
 have G_parting_of_orders:Gd l.prog w K mg base CX0 3 "parting_of_orders" Qn3 (zm_ K):=⟨_,_,zb9_ G_begins_with G_crossed_deck F11 zbY_ zb7_,PySem.W.mg_of X G a11,k11,b11⟩
 have G_parting_of:Gd l.prog w K mg base CX0 4 "parting_of" ["row", "other"] (zL_ K):=⟨_,_,zeT_ G_sense_of G_card_with G_parting_of_picks G_parting_of_orders C_ONE_MARK F12 zd9_ zep_,PySem.W.mg_of X G a12,k12,b12⟩
 have G_law_sense:Gd l.prog w K mg base CX0 1 "_law_sense" ["_law_row"] (z2_ K):=⟨_,_,zfj_  F13 zeB_ ze5_,PySem.W.mg_of X G a13,k13,b13⟩
 have G_law_are_cards:Gd l.prog w K mg base CX0 1 "_law_are_cards" ["_law_found"] (zC_ K):=⟨_,_,zcX_ B_isinstance B_list B_len B_str F14 zcI_ zdd_,PySem.W.mg_of X G a14,k14,b14⟩
 have G_law_done:Gd l.prog w K mg base CX0 1 "_law_done" ["_law_deck", "_law_one"] (zal_ K):=⟨_,_,zf9_ B_len F15 zeX_ zgh_,PySem.W.mg_of X G a15,k15,b15⟩
 have G_law_all_done:Gd l.prog w K mg base CX0 2 "_law_all_done" ["_law_deck", "_law_row"] (zA_ K):=⟨_,_,zdy_ G_law_done B_list F16 zc3_ zdq_,PySem.W.mg_of X G a16,k16,b16⟩
 have G_law_parted:Gd l.prog w K mg base CX0 3 "_law_parted" Qn2 (zM_ K):=⟨_,_,zeN_ G_law_sense G_law_are_cards G_law_all_done F17 zd7_ zeS_,PySem.W.mg_of X G a17,k17,b17⟩
 exact zmj_ (P:=l.prog) (w:=w) (base:=base) G_law_cell_at G_law_pass G_law_changed G_parting_of G_law_parted B_list F18 zlb_ zmd_
theorem walk {l:PySem.W.OpenLaw}{q:Program}{loose:List Str}{XP:(Str→Option Value)→Heap→Prop}{YP:World→Heap→Prop}{d:DefRec}{K:Params→Fgg}(hn:l.most=some 63) (hdf:d.params.defaults=[])
  (hY:∀ (w:World) (h:Heap),YP w h→(K w.params).In h)
  (F:∀ (w:World) (mg:Str→Option Value) (fa:Addr) (h:Heap),(K w.params).In h→h.Ns mainGlobals mg→mg d.name=some (.ref fa) →
   ∃ fd:FuncData,(∀ (s:Shared) (u:Value),BindsTo s fd ⟨[u],[]⟩ [("_law_script",u)])∧∀ base:Heap,(K w.params).In base→base.Ns mainGlobals mg→FnOk l.prog w (K w.params) mg base CX0 5 fa fd ["_law_script"] (zeE_ (K w.params))) :
  PySem.W.WalkO q loose XP YP l.row.toRowW d [] (fun f vs=>PySem.call f vs) :=
 L2.zjR_ (n:=63) (k:=5) (x := "_law_script") (CX:=fun _=>CX0) (sp:=fun w=>zeE_ (K w.params)) hn (by decide) hdf ⟨rfl,by decide,by decide⟩ hY F (fun _ _ a ns hl hb _ hS=>⟨a,ns,rfl,hS,hl,hb,fun _=>rfl⟩) fun _ _ _ _ _ z=>z
end K17
open PySem PySem.W PyProof.Rows
set_option maxRecDepth 100000 in
set_option maxHeartbeats 0 in
theorem PySem.Challenge.cw_cardshop_k17_rows_nearly_alike_holds : PySem.Challenge.rw_cardshop_k17_rows_nearly_alike.Holds := by
 w_on; o_law; k_head; (case hw=>w_witness2)
 k_fill
 refine K17.walk (l:=PySem.Challenge.rw_cardshop_k17_rows_nearly_alike) rfl rfl (fun w h Y=>PySem.W.kIn_of Y) ?F
 case F =>
  intro w mg fa h KX G hmg
  refine' K17.all_mk KX G hmg ?a0 ?l0 ?c0 ?k0 ?a1 ?l1 ?c1 ?k1 ?a2 ?l2 ?c2 ?k2 ?a3 ?l3 ?c3 ?k3 ?a4 ?l4 ?c4 ?k4 ?a5 ?l5 ?c5 ?k5 ?a6 ?l6 ?c6 ?k6 ?a7 ?l7 ?c7 ?k7 ?a8 ?l8 ?c8 ?k8 ?a9 ?l9 ?c9 ?k9 ?a10 ?l10 ?c10 ?k10 ?a11 ?l11 ?c11 ?k11 ?a12 ?l12 ?c12 ?k12 ?a13 ?l13 ?c13 ?k13 ?a14 ?l14 ?c14 ?k14 ?a15 ?l15 ?c15 ?k15 ?a16 ?l16 ?c16 ?k16 ?a17 ?l17 ?c17 ?k17 ?a18 ?l18 ?c18 ?k18 ?x0 ?y0 ?x1 ?y1 ?x2 ?y2 ?x3 ?y3 ?x4 ?y4 ?z0 ?z1 ?z2 ?z3 ?z4 ?z5 ?z6 ?z7 ?z8
  (case a0=>k_is)
  (case l0=>k_is)
  (case c0=>k_is)
  (case k0=>k_is)
  (case a1=>k_is)
  (case l1=>k_is)
  (case c1=>k_is)
  (case k1=>k_is)
  (case a2=>k_is)
  (case l2=>k_is)
  (case c2=>k_is)
  (case k2=>k_is)
  (case a3=>k_is)
  (case l3=>k_is)
  (case c3=>k_is)
  (case k3=>k_is)
  (case a4=>k_is)
  (case l4=>k_is)
  (case c4=>k_is)
  (case k4=>k_is)
  (case a5=>k_is)
  (case l5=>k_is)
  (case c5=>k_is)
  (case k5=>k_is)
  (case a6=>k_is)
  (case l6=>k_is)
  (case c6=>k_is)
  (case k6=>k_is)
  (case a7=>k_is)
  (case l7=>k_is)
  (case c7=>k_is)
  (case k7=>k_is)
  (case a8=>k_is)
  (case l8=>k_is)
  (case c8=>k_is)
  (case k8=>k_is)
  (case a9=>k_is)
  (case l9=>k_is)
  (case c9=>k_is)
  (case k9=>k_is)
  (case a10=>k_is)
  (case l10=>k_is)
  (case c10=>k_is)
  (case k10=>k_is)
  (case a11=>k_is)
  (case l11=>k_is)
  (case c11=>k_is)
  (case k11=>k_is)
  (case a12=>k_is)
  (case l12=>k_is)
  (case c12=>k_is)
  (case k12=>k_is)
  (case a13=>k_is)
  (case l13=>k_is)
  (case c13=>k_is)
  (case k13=>k_is)
  (case a14=>k_is)
  (case l14=>k_is)
  (case c14=>k_is)
  (case k14=>k_is)
  (case a15=>k_is)
  (case l15=>k_is)
  (case c15=>k_is)
  (case k15=>k_is)
  (case a16=>k_is)
  (case l16=>k_is)
  (case c16=>k_is)
  (case k16=>k_is)
  (case a17=>k_is)
  (case l17=>k_is)
  (case c17=>k_is)
  (case k17=>k_is)
  (case a18=>k_is)
  (case l18=>k_is)
  (case c18=>k_is)
  (case k18=>k_is)
  (case x0=>k_is)
  (case y0=>exact ⟨_,rfl⟩)
  (case x1=>k_is)
  (case y1=>exact ⟨_,rfl⟩)
  (case x2=>k_is)
  (case y2=>exact ⟨_,rfl⟩)
  (case x3=>k_is)
  (case y3=>exact ⟨_,rfl⟩)
  (case x4=>k_is)
  (case y4=>exact ⟨_,rfl⟩)
  (case z0=>k_is)
  (case z1=>k_is)
  (case z2=>k_is)
  (case z3=>k_is)
  (case z4=>k_is)
  (case z5=>k_is)
  (case z6=>k_is)
  (case z7=>k_is)
  (case z8=>k_is)
#print axioms PySem.Challenge.cw_cardshop_k17_rows_nearly_alike_holds
